import PyProof.Rows.All
import Wide.All
import OpenK.AllK
import Wide.FinOn
import PySem.Challenge.RW_linegate_k65_reasons_one_by_one
set_option Elab.async false
set_option linter.all false
set_option maxRecDepth 100000
set_option hygiene false
local macro_rules(kind:=Lean.Parser.Command.declaration)|s=>if s[0][4].isNone&&(s[1].isOfKind ``Lean.Parser.Command.definition||s[1].isOfKind ``Lean.Parser.Command.abbrev) then pure (s.modifyArg 0 (·.setArg 4 (Lean.mkNullNode #[Lean.mkNode ``Lean.Parser.Command.noncomputable #[Lean.mkAtom "noncomputable"]]))) else Lean.Macro.throwUnsupported
local macro_rules(kind:=Lean.Parser.Tactic.tacticLet__)|s=>if s[2][0][0].isOfKind `«term#[_,]» then do
  let N k a:=Lean.Syntax.node .none k a;let T:=`Lean.Parser.Tactic;let L k a:=N (T++`rcasesPatLo) #[N (T++`rcasesPatMed) #[N `null #[N (T++k) a]],N `null #[]]
  let p<-s[2][0][0].rewriteBottomUpM fun x=>pure (if x.isIdent then L `rcasesPat.one #[x] else if x.isOfKind `Lean.Parser.Term.hole then L `rcasesPat.ignore #[x[0]] else if x.isOfKind `«term#[_,]» then L `rcasesPat.tuple #[Lean.mkAtom "⟨",x[1],Lean.mkAtom "⟩"] else x);`(tactic|obtain $(.mk p[0]):rcasesPatMed:=$(.mk s[2][0][4]))
 else Lean.Macro.throwUnsupported
local macro_rules|`(tactic|apply $x)=>`(tactic|exact $x)
local macro_rules|`(tactic|ext $x:ident)=>`(tactic|cases $x:ident)
local macro_rules|`(#[$a,*])=>`(⟨$a,*⟩)
abbrev Fr:=PySem.W.Frag
local macro_rules|`(tactic|exists 20,$p)=>`(tactic|refine #[_,$p,@fun H0 S z au Y U H Q d tg ok e q=>?_])
local macro_rules|`(tactic|exists 21,$p)=>`(tactic|refine #[_,$p,@fun H0 S z au Y U H Q d tg ok e k=>?_])
local macro_rules|`(tactic|exists 22,$p)=>`(tactic|refine #[_,$p,@fun H0 S z au Y U H Q c ok e k=>?_])
local macro_rules|`(tactic|exists 23,$p)=>`(tactic|refine #[_,$p,@fun H0 S z au Y U H E o ok e k=>?_])
local macro_rules|`(tactic|exists 24,$p)=>`(tactic|refine #[_,$p,@fun H0 S z au Y U H R ds tg ok e k=>?_])
local macro_rules|`(tactic|exists 25,$p)=>`(tactic|refine #[_,$p,@fun H0 S z au Y U H E o ok e q=>?_])
set_option hygiene true
noncomputable section
abbrev aab:=@List.mem_cons_of_mem
abbrev aah:=@List.mem_cons_self
abbrev aav:=@List.mem_singleton
abbrev aaA:=@PySem.Heap.get?_push_of_some
abbrev aaB:=@List.map_cons
abbrev aaC:=@decide_eq_true
abbrev aaK:=@of_decide_eq_true
abbrev aaN:=@PySem.wpAny_bind
abbrev aaO:=@List.mem_cons
abbrev aaS:=@List.mem_append_right
abbrev aaV:=@Bool.and_eq_true
abbrev aa2:=@Bool.false_ne_true
abbrev aa3:=@List.length_append
abbrev aa4:=@List.mem_append_left
abbrev aa8:=@decide_eq_false
abbrev abh:=@PySem.Heap.lt_size
abbrev abm:=@List.getElem?_eq_getElem
abbrev abo:=@if_neg
abbrev abC:=@List.mem_append
abbrev abD:=@Nat.le_refl
abbrev abK:=@List.size_toArray
abbrev ab4:=@PySem.Heap.get?_push_size
abbrev ab6:=@List.nodup_cons
abbrev acg:=@List.mem_map
abbrev ach:=@Option.some.inj
abbrev acp:=@PySem.wpAny_pure
abbrev acw:=@List.append_nil
abbrev acF:=@List.length_cons
abbrev acL:=@List.not_mem_nil
abbrev acV:=@Nat.ne_of_lt
abbrev ac0:=@List.getElem?_eq_some_iff
abbrev ac6:=@List.nodup_nil
abbrev ac7:=@List.length_singleton
abbrev ac8:=@List.getElem?_set_ne
abbrev ac9:=@Nat.lt_of_lt_of_le
abbrev ade:=@Nat.zero_le
abbrev adh:=@List.mem_filter
abbrev adm:=@List.getElem?_map
abbrev adq:=@Option.map_eq_some_iff
abbrev adA:=@List.getD_eq_getElem?_getD
abbrev adG:=@Option.bind_some
abbrev adK:=@List.map_map
abbrev adQ:=@List.nodup_append
abbrev adV:=@List.find?_cons
abbrev adY:=@List.length_replicate
abbrev ad3:=@beq_eq_false_iff_ne
abbrev ad9:=@List.length_filter_le
abbrev aea:=@List.map_append
abbrev aei:=@List.all_eq_true
abbrev aeo:=@PySem.wpAny_mono
abbrev aew:=@List.pairwise_cons
abbrev aeK:=@List.any_eq_true
abbrev aeM:=@Option.bind_eq_some_iff
abbrev aeO:=@List.foldl_cons
abbrev aeQ:=@PySem.Heap.get?_update_other
abbrev aeT:=@List.getElem?_set_self
abbrev aeW:=@List.lookup_cons
abbrev ae4:=@List.append_assoc
abbrev afg:=@List.contains_iff_mem
abbrev afi:=@List.filterMap_cons
abbrev afr:=@List.filter_sublist
abbrev afs:=@List.getElem?_append_right
abbrev afw:=@List.map_congr_left
abbrev afM:=@PySem.Around.under_plainId
abbrev afO:=@Nat.lt_irrefl
abbrev afS:=@Option.isSome_iff_exists
abbrev af0:=@Nat.le_trans
abbrev af4:=@Nat.le_of_lt
abbrev af8:=@Array.length_toList
abbrev aga:=@PySem.sizeLine_eq
abbrev agc:=@Array.getD_eq_getD_getElem?
abbrev agh:=@PySem.wpAny_truthy_bool
abbrev agj:=@PySem.wpAny_Call_Name_kw
abbrev agm:=@List.eq_nil_iff_forall_not_mem
abbrev agx:=@List.find?_cons_of_neg
abbrev agF:=@PySem.codeAny_builtin
abbrev agG:=@List.getElem?_append_left
abbrev agJ:=@PySem.wpAny_holding
abbrev agM:=@Ne.symm
abbrev agP:=@PyProof.Rows.callWith_type1
abbrev agT:=@List.cons.injEq
abbrev agX:=@List.filterMap_map
abbrev ag1:=@List.filter_cons_of_pos
abbrev ag2:=@List.mem_of_getElem?
abbrev ag3:=@List.filter_cons
abbrev ag4:=@List.append_eq_nil_iff
abbrev ag6:=@List.find?_cons_of_pos
abbrev ahe:=@Bool.eq_false_iff
abbrev ahf:=@List.mem_of_find?_eq_some
abbrev ahl:=@Bool.and_self
abbrev ahm:=@Classical.byContradiction
abbrev ahn:=@List.length_set
abbrev ahp:=@beq_iff_eq
abbrev ahq:=@PySem.tupleKind_room_in1
abbrev ahs:=@List.find?_eq_none
abbrev aht:=@List.eq_nil_of_length_eq_zero
abbrev ahA:=@List.pairwise_singleton
abbrev ahD:=@List.mem_range
abbrev ahU:=@Nat.ne_of_gt
abbrev ahV:=@PySem.wpAny_newObj_type
abbrev ahZ:=@Option.isSome_map
abbrev ah3:=@PySem.Heap.get?_update_ne
abbrev ah5:=@List.filter_eq_nil_iff
abbrev ah7:=@Array.perm_iff_toList_perm
abbrev ah9:=@List.length_take
abbrev aia:=@beq_self_eq_true
abbrev aic:=@PySem.F.plain_min_loop
abbrev aid:=@PySem.Heap.get?_update_self
abbrev aif:=@List.mem_filterMap
abbrev aih:=@Nat.lt_of_le_of_lt
abbrev aii:=@Bool.false_eq_true
abbrev aik:=@PySem.plainId_quiet
abbrev ail:=@PySem.wpAny_passesOwn
abbrev aim:=@Int.toNat_natCast
abbrev ain:=@List.pairwise_map
abbrev aiq:=@List.any_map
abbrev aiu:=@List.any_cons
abbrev aiv:=@List.filter_cons_of_neg
abbrev aiw:=@List.filter_eq_self
abbrev aix:=@Nat.lt_succ_self
abbrev aiy:=@Option.getD_some
abbrev aiz:=@decide_eq_decide
abbrev aiA:=@PySem.Heap.size_push
abbrev aiC:=@List.take_of_length_le
abbrev aiD:=@List.getElem?_eq_none
abbrev aiE:=@or_false
abbrev aiF:=@List.takeWhile_cons_of_neg
abbrev aiG:=@List.takeWhile_cons_of_pos
abbrev aiH:=@PySem.Heap.get?_none_of_le
abbrev aiI:=@PySem.wpAny_tryCatch
abbrev aiJ:=@List.drop_eq_getElem_cons
abbrev aiK:=@List.pairwise_iff_getElem
abbrev aiL:=@PySem.codeAny_mono
abbrev aiM:=@List.all_map
abbrev aiN:=@PySem.wpAny_execs_nil
abbrev aiO:=@Bool.eq_iff_iff
abbrev aiP:=@List.all_cons
abbrev aiQ:=@PySem.wpAny_updateSeq
abbrev aiR:=@Bool.or_eq_true
abbrev aiS:=@List.find?_some
abbrev aiT:=@List.map_take
abbrev aiU:=@of_decide_eq_false
abbrev aiV:=@Sum.inl.inj
abbrev aiW:=@Nat.lt_succ_of_lt
abbrev aiX:=@List.filter_congr
abbrev aiY:=@List.map_nil
namespace L2
open PySem PySem.Spec
open PySem PySem.Spec PyProof.Rows
def vm(o:Obj):Option (Value×Str×Pos):=match o.data with
 |.func fd=>match fd.body with
  |.stmts [.Return (some (.Call _ _ [#[_,.Lambda _ _ _ pos,_]] _)) _]=>some (fd.code,fd.qualname++".<locals>."++"<lambda>",pos)
  |_=>none
 |_=>none
def Dh(K:Fr)(p:Addr×Obj):Option (Addr×Addr×Str×Pos):=match vm p.2 with
 |some (.ref c,q,pos)=>match K.lookup c with
  |some #[_,_,.fields vs,_]=>match(vs[11]? : Option Value) with
   |some (.ref P)=>some (c,P,q,pos)
   |_=>none
  |_=>none
 |_=>none
def jg(K:Fr):List (Addr×Addr×Str×Pos):=K.filterMap (Dh K)
def yL(K:Fr):Bool:=K.all λp=>match p.2.data with
 |.seq ay _=>ay.size==0||ay.toList.any λv=>match v with|.int _ _=>false|_=>true
 |_=>true
def x_(K:Fr):Bool:=(yL K&&K.all λp=>(vm p.2).isNone||(Dh K p).isSome)&&match jg K with
 |[]=>true
 |[r]=>PySem.W.codeHdIn K r.1 r.2.1&&(K.lookup r.2.1).isNone
 |_=>false
end L2
namespace L2
open PySem PySem.Spec PyProof.Rows
def inClass(s:Stmt)(j:Nat):Stmt:=match s with
 |.ClassDef _ _ _ body _ _ _ _ _ _ _=>body.getD j (.Pass #[0,0,0,0])
 |_=>.Pass #[0,0,0,0]
def lP(s:Stmt):Arguments:=match s with
 |.FunctionDef _ a _ _ _ _ _ _ _ _=>a
 |_=>{ posonlyargs:=[],args:=[],vararg:=none,kwonlyargs:=[],kw_defaults:=[],kwarg:=none,defaults:=[] }
def iz(s:Stmt):List Stmt:=match s with
 |.FunctionDef _ _ b _ _ _ _ _ _ _=>b
 |_=>[]
def c8(s:Stmt):Scope:=match s with
 |.FunctionDef _ _ _ _ _ _ sc _ _ _=>sc
 |_=>{ kind:=.function,names:=[],isGenerator:=false,isCoroutine:=false }
end L2
namespace L2.Ev
open PySem PySem.W
abbrev R1:List Value:=[.type "ValueError",.type "Exception",.type "BaseException",.type "object"]
def xD(K:Frag)(C:Addr):Bool:=match K.lookup C with
 |some #[c,_,.cls cd,#[sl]]=>c == .type "type"&&cd.mro == .ref C::cd.mro.tail&&sl==[sl.getD 0 none,sl.getD 1 none,sl.getD 2 none,sl.getD 3 none,some (.builtin "ValueError.__new__"),sl.getD 5 none]&&cd.hasDel==false&&tailIn K R1 cd.mro.tail&&nsOkIn K cd.ns&&nsIn K cd.ns "__init__" == some none
 |_=>false
end L2.Ev
namespace L2
open PySem PySem.Spec PyProof.Rows
def tabs_ok{K:Params->Fr}{e:∀P,as=(K P).map (·.1)}(h:∀w:World,(jg (K w.params)).map (·.2.1)=ts)(w:World)(hp:Heap)(YY:(PySem.W.kmHook K as e ts).says w hp):∀r∈jg (K w.params),hp.get? r.2.1=some (PySem.W.tabObj ([].toArray)):=
 λr m=>PySem.W.km_tabs_of YY _ (by rw[<- h w];apply List.mem_map_of_mem m)
end L2
namespace L2.Ev
open PySem PySem.Spec PySem.W PyProof.Rows
structure Ls where
 bt:List Str
 gi:List (Str×Int)
 tp:List (Str×List Str)
 cl:List Str
 na:List (Str×Str)
 ni:Bool
 ex:List Str
 xc:List Str
 ct:List (Str×List Str)
 kt:List (Str×List (Str×Bool))
 ki:List (Str×List Str×List (Str×Bool))
def cA(K:Frag)(c:Str):Addr:=match nsIn K mainGlobals c with
 |some (some (.ref a))=>a
 |_=>0
def kv(K:Frag)(c:Str):Value:=if c == "ValueError" then .type "ValueError" else .ref (cA K c)
def gP:Stmt->Str
 |.FunctionDef x ..=>x
 |_=>Str.empty
def jz(c:Str)(s:Stmt):Str:=if c==Str.empty then gP s else c++"."++gP s
def strOf:Value->Option Str
 |.str s _=>some s
 |_=>none
def Li(K:Frag)(x:Str)(l:List Str):Bool:=match nsIn K mainGlobals x with
 | some (some (.ref a))=>(match K.lookup a with
  |some #[c,none,.seq ay _,_]=>c == .type "tuple"&&decide (ay.size<=sizeLine)&&ay.toList.map strOf==l.map some
  |_=>false)
 |_=>false
def Th(K:Frag)(x:Str)(n:Int):Bool:=match nsIn K mainGlobals x with
 |some (some (.int m _))=>m==n
 |_=>false
def yQ(K:Frag)(c:Str):Bool:=nsIn K mainGlobals c==some (some (.ref (cA K c)))&&plainGet K (cA K c) Str.empty&&hasDictIn K (cA K c)&&plainOver K (cA K c)&&findIn K (.ref (cA K c)) "__setattr__" == some (some (.builtin "object.__setattr__"))&&makesIn K (cA K c)&&keepIn K (.ref (cA K c))
def ek(K:Frag)(r:Str):Bool:=findIn K (.ref (cA K r)) "__getattribute__" == some (some (.builtin "BaseException.__getattribute__"))&&findIn K (.ref (cA K r)) "__getattr__" == some none&&findIn K (.ref (cA K r)) "__class__" == some (some (.builtin "object.__class__"))&&specialIn K (.builtin "object.__class__") "__get__" == some (some (.builtin "getset_descriptor.__get__"))&&takesIn K (.builtin "object.__class__")==some true&&mroIn K (cA K r) (.type "object")==some true&&mroIn K (cA K r) (.type "BaseException")==some true
def Mt(L:Ls)(K:Frag):Bool:=L.ex.all (λc=>nsIn K mainGlobals c==some (some (.ref (cA K c))))&&L.xc.all (λc=>xD K (cA K c))&&L.ct.all (λp=>L.xc.contains p.1&&mroIn K (cA K p.1) (.type "BaseException")==some true&&p.2.all λr=>L.xc.contains r&&L.ex.contains r&&mroIn K (cA K r) (.ref (cA K p.1))==some true)&&L.kt.all (λp=>p.2.all λr=>L.ex.contains r.1&&ek K r.1&&kitOne K (.ref (cA K r.1)) (kv K p.1)==some r.2)&&L.ki.all (λp=>p.2.2.all λr=>L.ex.contains r.1&&ek K r.1&&kitAny K (.ref (cA K r.1)) ((p.2.1.map (cA K)).map Value.ref)==some r.2)
def tL(L:Ls)(K:Frag):Bool:=(!L.ni||yL K)&&Mt L K&&L.bt.all (λx=>nsIn K mainGlobals x==some none)&&L.gi.all (λp=>Th K p.1 p.2)&&L.tp.all (λp=>Li K p.1 p.2)&&L.cl.all (yQ K)&&L.na.all (λp=>findIn K (.ref (cA K p.1)) p.2==some none)
def QT(fd:FuncData):FuncData:={ fd with kwdefaults:=.none,doc:=.none,pyModule:=.none,annotations:=none,code:=.none,closureTuple:=.none }
def Jk(K:Frag)(q:Str):Option (Option Value)->Option FuncData
 | some (some (.ref a))=>(match K.lookup a with
  |some #[_,_,.func fd,_]=>if(codeIn K fd.code q&&keepIn K (.ref a)&&isFn K (.ref a))=true then some (QT fd) else none
  |_=>none)
 |_=>none
def look(K:Frag)(p:Str×Stmt):Option FuncData:=Jk K (jz p.1 p.2) (if p.1==Str.empty then nsIn K mainGlobals (gP p.2) else findIn K (.ref (cA K p.1)) (gP p.2))
def want(p:Str×Stmt):Option FuncData:=some (fnOf (gP p.2) (jz p.1 p.2) (lP p.2) (iz p.2) (c8 p.2) .none .none .none .none none .none .none)
end L2.Ev
namespace K65
open PySem L2 L2.Ev
def top(i:Nat):Stmt:=PySem.Challenge.pw_linegate_k65_reasons_one_by_one.main.body.getD i (.Pass #[0,0,0,0])
def L:Ls:=#[["ValueError","all","bool","dict","int","isinstance","len","list","min","range","sorted","str","tuple","zip"],[("GREATEST_RANK",9),("GREATEST_SLOT",999),("GREATEST_VALUE",1000000000),("MOST_CHANGES",60),("MOST_EDITS",20),("MOST_HANDS",8),("MOST_TRIES",20),("MOST_WIDTH",16)],[("BAD_WORDS",["no","unsure"]),("WORDS",["yes","no","unsure"])],["Changes","Gate","Tally"],[("Changes","entries"),("Gate","answers"),("Gate","breaks"),("Gate","ended"),("Gate","grounds"),("Gate","grown"),("Gate","halted"),("Gate","known"),("Gate","laid_ones"),("Gate","looks"),("Gate","numbers"),("Gate","on_line"),("Gate","tallies"),("Tally","heard"),("Tally","need"),("Tally","tries")],true,["LinegateError","NoChange","NoLook","NoRow","TooLate"],["LinegateError","NoChange"],[("LinegateError",["NoChange"])],[("NoChange",[("NoChange",true)]),("NoLook",[("NoChange",false)]),("NoRow",[("NoChange",false)]),("TooLate",[("NoChange",false)]),("ValueError",[("NoChange",true)])],[("_law_refused",["NoLook","NoRow","TooLate"],[("NoChange",false)])]]
end K65
namespace HT
open PySem PySem.W PyProof.Rows
def F5:List Obj->List Obj
 |[]=>[]
 |[a]=>[a]
 |a::_::l=>a::F5 l
def Ft:Nat->List Obj->BT
 |0,_=>.nil
 |_+1,[]=>.nil
 |k+1,o::l=>.node o (Ft k (F5 l)) (Ft k (F5 l.tail))
def oK(tb:String->Option Builtin)(p:Program)(w:World)(xS:Nat)(ann:Option Value):Nat->SharedT->Thread->Option SharedT
 |0,_,_=>none
 |k+1,s,t=>match through t with
  |true=>some s
  |false=>match stepOk xS ann t with
   |false=>none
   |true=>match stepT (denote tb) p w s t with
    |none=>none
    |some (s',t')=>oK tb p w xS ann k s' t'
theorem Mn:∀{k} {s s'} {t},oK tb p w xS ann k s t=some s'->topRun tb p w xS ann k s.abs t=some s'.abs
 |0,_,_,_,h=>by ext h
 |k+1,s,s',t,h=>by
  unfold oK at h;unfold topRun;cases e:through t with
  |true=>rw[e] at h;ext h;rfl
  |false=>
   rw[e] at h;cases o:stepOk xS ann t with
   |false=>rw[o] at h;ext h
   |true=>
    rw[o] at h;cases g:stepT (denote tb) p w s t with
    |none=>rw[g] at h;ext h
    |some r=>let#[s2,t2]:=r;rw[g] at h;rw[stepT_spec g];apply Mn h
def Hy(P:Params):BT:=Ft 12 (boot_heap P).objs.toList
def nV:Nat:=11
def abV(P:Params):(boot_heap P).objs.size=nV:=by kernel_rfl
def boot_abs(P:Params):absHeap (Hy P) nV (boot_heap P).life=boot_heap P:=by kernel_rfl
def sE(P:Params)(os:OsState):SharedT:=#[Hy P,nV,(boot_heap P).life,Array.mk [],boot_drawn,boot_toks,os]
def Vz
  (he:opening p=plainProg p.main.scope.names) (hf:∀s,fenceModules? p s=some s) (hN:Nat.ble 600 N=true)
  (hz:∀P:Params,((boot_heap P).isNs mainGlobals,(boot_heap P).nsMap mainGlobals "__annotations__")=(true,ann))
  (h:∀(w) (os),(oK treeTable p w nV ann N (sE w.params os) (topStub p)).map (λsT=>
    ((staticsOk (importedModules p.main.body) (boot_heap w.params) sT.abs.heap&&namesBound p sT.abs.heap&&gensDone sT.abs&&laidKept (boot_heap w.params) sT.abs.heap),openSeen q loose (importedModules p.main.body) Xt true sT.abs,Yf sT.abs))=some (true,openGood q loose,Ya w)) :
  LeftO p q loose Xt Yf Ya N:=λw=>by
 let#[#[hh,gs,d,k,os],e,e']:=adq.mp (boot_open he hN hf w);obtain⟨rfl,rfl,rfl,rfl⟩:hh=boot_heap w.params/\gs=Array.mk []/\d=boot_drawn/\k=boot_toks:=by simpa using e'
 obtain⟨z1,z2⟩:_/\_:=by simpa only[Prod.mk.injEq] using hz w.params
 let#[sT,r,l]:=adq.mp (h w os);obtain⟨l1,l2,l3⟩:_/\_/\_:=by simpa only[Prod.mk.injEq] using l
 have r':=Mn r;have ab:(sE w.params os).abs=#[boot_heap w.params,Array.mk [],boot_drawn,boot_toks,os]:=by
  show Shared.mk (absHeap (Hy w.params) nV (boot_heap w.params).life) _ _ _ _=_;rw[boot_abs];rfl
 rw[ab] at r';have t:topFrom treeTable p w N #[boot_heap w.params,Array.mk [],boot_drawn,boot_toks,os]=some sT.abs:=by
  unfold topFrom;dsimp only;rw[z1,z2,abV,r'];show(match staticsOk (importedModules p.main.body) (boot_heap w.params) sT.abs.heap&&namesBound p sT.abs.heap&&gensDone sT.abs&&laidKept (boot_heap w.params) sT.abs.heap with|true=>_|false=>_)=_;rw[l1]
 unfold openEnds;rw[e];show(topFrom treeTable p w N _).map _=_;rw[t];apply congrArg some (Prod.ext l2 l3)
def ahP
  (he:opening p=plainProg p.main.scope.names) (hf:∀s,fenceModules? p s=some s) (hN:Nat.ble 600 N=true)
  (hz:∀P:Params,((boot_heap P).isNs mainGlobals,(boot_heap P).nsMap mainGlobals "__annotations__")=(true,ann))
  (h1:∀(w) (os),(oK treeTable p w nV ann N (sE w.params os) (topStub p)).map (λsT=>((staticsOk (importedModules p.main.body) (boot_heap w.params) sT.abs.heap&&namesBound p sT.abs.heap&&gensDone sT.abs&&laidKept (boot_heap w.params) sT.abs.heap),openSeen q loose (importedModules p.main.body) Xt true sT.abs))=some (true,openGood q loose))
  (h3:∀(w) (os),(oK treeTable p w nV ann N (sE w.params os) (topStub p)).map (λsT=>Yf sT.abs)=some (Ya w)) :
  LeftO p q loose Xt Yf Ya N:=Vz he hf hN hz λw os=>by
 let#[sT,r,e1]:=adq.mp (h1 w os);have e3:=h3 w os;rw[r] at e3 ⊢;have e3:=ach e3;obtain⟨e1,e2⟩:_/\_:=by simpa only[Prod.mk.injEq] using e1
 show some (_,_,_)=some (true,openGood q loose,Ya w);rw[e1,<- e2,<- e3]
def tg(s:SharedT)(a:Nat):Option Obj:=match Nat.blt a s.n with
 |true=>match s.tree.get a with
  |some o=>alive o
  |none=>none
 |false=>none
def aaU(h:tg s a=some o):s.abs.heap.get? a=some o:=by
 unfold tg at h;cases e:Nat.blt a s.n with
 |false=>rw[e] at h;ext h
 |true=>
  rw[e] at h;dsimp only at h;cases g:s.tree.get a with
  |none=>rw[g] at h;ext h
  |some o'=>
   rw[g] at h;have eT:a<s.n:=by simpa using e
   apply(abs_get eT g).trans h
theorem Gk:∀{as:List Addr}{os:List Obj},as.map (tg s)=os.map some->as.map s.abs.heap.get? = os.map some
 |[],[],_=>rfl
 |[],_::_,h=>by ext h
 |_::_,[],h=>by ext h
 |a::as,o::os,h=>by
  rw[aaB,aaB] at h;injection h with h1 h2;rw[aaB,aaB,aaU h1,Gk h2]
end HT
namespace HT
open PySem PySem.W PyProof.Rows
variable{K:Params->Frag}
def left_Tkm(he:opening p=plainProg p.main.scope.names)(hf:∀s,fenceModules? p s=some s)(hN:Nat.ble 600 N=true)
  (hz:∀P:Params,((boot_heap P).isNs mainGlobals,(boot_heap P).nsMap mainGlobals "__annotations__")=(true,ann))
  (h1:∀(w:World) (os),(oK treeTable p w nV ann N (sE w.params os) (topStub p)).map (λsT=>((staticsOk (importedModules p.main.body) (boot_heap w.params) sT.abs.heap&&namesBound p sT.abs.heap&&gensDone sT.abs&&laidKept (boot_heap w.params) sT.abs.heap),openSeen q loose (importedModules p.main.body) Xt true sT.abs))=some (true,openGood q loose))
  (h3:∀(w) (os),(oK treeTable p w nV ann N (sE w.params os) (topStub p)).map (λsT=>(as.map (tg sT),ts.map (tg sT)))=some (((K w.params).map (·.2)).map some,(ts.map λ_=>tabObj ([].toArray)).map some)) :
  LeftO p q loose Xt (Hook.obs (kmHook K as e ts)) (Hook.val (kmHook K as e ts)) N:=ahP he hf hN hz h1 λw os=>by
 let#[sT,r,e1]:=adq.mp (h3 w os);obtain⟨e1,e2⟩:_/\_:=by simpa only[Prod.mk.injEq] using e1
 rw[r];show some (as.map sT.abs.heap.get?,ts.map sT.abs.heap.get?)=some ((K w.params).map λp=>some p.2,ts.map λ_=>some (tabObj ([].toArray)));rw[Gk e1,Gk e2,adK,adK];rfl
end HT
namespace K65
open PySem L2 L2.Ev
def tab:List (Str×Stmt):=[53,54,12,46,13,19,20,21,18,27,34,33,35,32,29,31,17,41,40,55,56,30,38,37,37,57,58,59,60,61,62,63].map (λi=>(Str.empty,top i))++[0,2,9,11,1,10,4,5,3,8].map (λi=>(("Changes":Str),inClass (top 26) i))++[0,19,8,24,21,20,11,26,13,27,25,29,28,23,1,17,6,9,7,12,4,5,22,3,2].map (λi=>(("Gate":Str),inClass (top 51) i))++[3,1,0].map (λi=>(("Tally":Str),inClass (top 45) i))
def isNm:Stmt->Bool
 |.FunctionDef x ..=>!(x == "law")
 |_=>true
def lo:List Str:=(["_wall","LinegateError","NoFit","NoChange","TooMany","NoRule","NoAnswer","NoLook","TooLate","NoRow","within","rising","GREATEST_SLOT","GREATEST_VALUE","unfit","edited_in_turn","are_edits","misfit","sheet_of_values","MOST_CHANGES","MOST_EDITS","GREATEST_RANK","Changes","sheet_of","free","layable","filled","first_fitting","in_turn","values_behind","fits","why","why_waiting","wanted_places","middle_of_gap","WORDS","MOST_TRIES","Tally","makes_tally","MOST_WIDTH","MOST_HANDS","BAD_WORDS","Gate","_law_cell_at","_law_mixed","_law_plain","_law_is","_law_refused","_law_turns","_law_leaning","_law_halving","_law_unfit","_law_gone"]:List String).map Str.ofString
def vw:Program:={ PySem.Challenge.pw_linegate_k65_reasons_one_by_one with main:={ (PySem.Challenge.pw_linegate_k65_reasons_one_by_one).main with body:=(PySem.Challenge.pw_linegate_k65_reasons_one_by_one).main.body.filter λs=>!isNm s } }
def Wk:Prop:=∀{YP:World->Heap->Prop}{K:Params->Fr}{d:DefRec},(∀(w:World) (h:Heap),YP w h->(K w.params).In h)->(∀(w:World) (h:Heap),YP w h->∀r∈jg (K w.params),h.get? r.2.1=some (PySem.W.tabObj ([].toArray)))->(∀w:World,x_ (K w.params)=true)->(∀w:World,tL L (K w.params)=true)->(∀w:World,tab.map (look (K w.params))=tab.map want)->d.params.defaults=[]->d.name="law"->PySem.W.WalkO vw lo (PySem.W.XL vw []) YP (PySem.W.OpenLaw.row PySem.Challenge.rw_linegate_k65_reasons_one_by_one).toRowW d [] (λf vs=>PySem.call f vs)
end K65
namespace K65
open PySem L2 L2.Ev
open PySem PySem.W PyProof.Rows L2 L2.Ev
def xt(s:Shared):Bool:=xlAt vw [] s&&recOk (RowW.records (OpenRow.toRowW (OpenLaw.row PySem.Challenge.rw_linegate_k65_reasons_one_by_one))) s
def xt1(s:Shared)(e:xt s=true):XL vw [] (s.heap.nsMap mainGlobals) s.heap:=xl_of s (Bool.and_eq_true_iff.mp e).1
def rn(w:World)(os:OsState):(HT.oK treeTable PySem.Challenge.pw_linegate_k65_reasons_one_by_one w HT.nV (some (.ref 6)) 20000 (HT.sE w.params os) (topStub PySem.Challenge.pw_linegate_k65_reasons_one_by_one)).map (λsT=>((staticsOk (importedModules (PySem.Challenge.pw_linegate_k65_reasons_one_by_one).main.body) (boot_heap w.params) sT.abs.heap&&namesBound PySem.Challenge.pw_linegate_k65_reasons_one_by_one sT.abs.heap&&gensDone sT.abs&&laidKept (boot_heap w.params) sT.abs.heap),openSeen vw lo (importedModules (PySem.Challenge.pw_linegate_k65_reasons_one_by_one).main.body) xt true sT.abs))=some (true,openGood vw lo):=by kernel_rfl
def xt2(s:Shared)(e:xt s=true):RecFacts (RowW.records (OpenRow.toRowW (OpenLaw.row PySem.Challenge.rw_linegate_k65_reasons_one_by_one))) s.heap:=recFacts_of (Bool.and_eq_true_iff.mp e).2
local macro_rules | `(tactic| o_head $H)=>`(tactic| (refine PySem.W.holds_open (q:=K65.vw) (loose:=K65.lo) (N:=20000) (Xt:=K65.xt) (XP:=XL K65.vw []) (Yf:=Hook.obs $H) (Ya:=Hook.val $H) (YP:=Hook.says $H) ?hl (Hook.of $H) (Hook.keeps $H) K65.xt1 XL.keeps (by rfl) (by rfl) (by rfl) K65.xt2 (by rfl) (by assumption) (by decide +kernel) #[rfl,rfl,rfl,rfl,rfl,by decide +kernel] ?hw ?hc;(case hl=>apply HT.left_Tkm (ann:=some (.ref 6)) (by rfl) (fun _=>rfl) (by decide) (fun _=>by kernel_rfl) K65.rn fun w os=>by kernel_rfl);(case hw=>w_witness2)))
def Z6:OpenLaw.wellSaid PySem.Challenge.rw_linegate_k65_reasons_one_by_one=true:=by kernel_rfl
set_option maxHeartbeats 0 in
def early(H:Wk):PySem.Challenge.rw_linegate_k65_reasons_one_by_one.Holds:=by
 w_on;refine holds_law Z6 λaio=>?_;k_head
 k_fill
 apply H (λw h YY=>PySem.W.km_in_of YY) (L2.tabs_ok λw=>by kernel_rfl) (λw=>by kernel_rfl) (λw=>by kernel_rfl) (λw=>by kernel_rfl) rfl rfl
end K65
local macro_rules | `(tactic| walk_at "va")=>`(tactic| apply #[rfl,by first | apply Or.inl rfl | apply Or.inr (Or.inl rfl) | apply Or.inr (Or.inr rfl),by decide,by decide])
local macro_rules | `(tactic| exists $h:ident, $x, $w:ident, $e:ident) => `(tactic| (rcases $h:ident : $x:term with _ | $w:ident; (rw [$h:ident] at $e:ident; cases $e:ident); rw [$h:ident] at $e:ident))
local macro_rules | `(tactic| exists $h:ident, $x, $w:ident, $e:ident, 0) => `(tactic| (rcases $h:ident : $x:term with _ | $w:ident; (rw [$h:ident] at $e:ident; cases $e:ident)))
def ci{c:Prop}[Decidable c]{α:Type}{a:Option α}{y:α}(e:(if c then a else none)=some y):c/\a=some y:=by
 by_cases h:c
 .rw[if_pos h] at e;apply#[h,e]
 .rw[abo h] at e;ext e
namespace L2
open PySem PySem.Spec
def acj:entryFor table "proto.unchain"=some Builtin.«proto.unchain»:=entryFor_of_tree (by kernel_rfl)
def aeu{α:Type}{Q:α->Shared->Prop}(hh:A.handled=some (.ref h))(he:s.heap.get? e=some oe)(hd:oe.data=.fields ve)(h2:2<ve.size)
  (hx:s.heap.get? h=some oh) (Kv:oh.data=.fields vh) (qz:vh[2]? = some .none) (ne:h≠e) (q:E (.ref e) { s with heap:=s.heap.update e (Obj.mapFields (·.setIfInBounds 2 (.ref h))) }):wpAny (model prog w) A (raiseNew (.ref e):Sem α) Q E s:=by
 unfold raiseNew;refine aaN (wpAny_handled ?_);rw[hh];dsimp only;rw[if_pos (by simpa using ne)];refine aaN (agJ (wpAny_runValue (agF acj ?_)));unfold Builtin.«proto.unchain»;refine aaN (wpAny_field hx Kv qz ?_);rw[if_pos (by rfl)];refine acp ?_;refine aaN ?_;unfold updateField;refine aaN (wpAny_load he ?_);rw[hd];dsimp only;rw[if_pos h2];apply wpAny_update' he (wpAny_throw q)
def aee{prog:Program}{w:World}{A:Around}{E:Value->Shared->Prop}{s:Shared}{it h:Addr}{x left step:Int}{oh:Obj}{vh:Array Value}{Q:Option Value->Shared->Prop}(hh:A.handled=some (.ref h))(hx:s.heap.get? h=some oh)(Kv:oh.data=.fields vh)(qz:vh[2]? = some .none)(hit:IsRangeIter s.heap it x left step)(abQ:left<=0)
  (hQ:∀h',Heap.ExtBut it s.heap h'->Q none { s with heap:=h' }):wpAny (model prog w) A (pyNext (.ref it)) Q E s:=by
 have hT:s.TypeIs (.ref it) "range_iterator":=#[_,hit,rfl]
 unfold pyNext;refine aaN (wpAny_attempt (wpAny_callSpecial?_slot hT F.slot_range_iterator_next
  (wpAny_call_entry F.slot_range_iterator_next hT F.entry_range_iterator_next ?_ (F.args_range_iterator_next_1 _))))
 show wpAny _ _ (field (.ref it) 0 >>= _) _ _ s;refine aaN (wpAny_field hit rfl rfl ?_);refine aaN (wpAny_field hit rfl rfl ?_);refine aaN (wpAny_field hit rfl rfl ?_);show wpAny _ _ (if left<=0 then _ else _) _ _ s;rw[if_pos abQ];refine aaN (wpAny_rule ?_);refine aaN ?_;refine aaN ?_;simp only[newExc,newTuple];refine aaN (ahV ?_ (by size_fits));refine aaN (wpAny_of_eq (by first|rfl|(simp only[firstArgMember];rfl)) ?_);refine ahV ?_ (by size_fits);have hn:h≠(s.heap.push { cls:=.type "tuple",dict:=none,data:=.seq ([]:List Value).toArray }).objs.size:=acV (abh (aaA _ hx));refine aeu (by first|exact hh|(show A.in1.handled=_;apply hh)) (ab4 _ rfl) rfl (by simp<;>lia) (aaA _ (aaA _ hx)) Kv qz hn ?_;refine aaN (wpAny_isInstance #[_,aid _ (ab4 _ rfl) rfl,rfl] isSubtype_stop ?_);refine acp (hQ _ λb o hb e=>?_);rw[aeQ _ _ (agM (acV (abh (aaA _ e))))];apply aaA _ (aaA _ e)
open PySem PySem.Spec PyProof.Rows
abbrev Key:=Sum Int Str
def rX:Key->Value->Bool
 |.inl k,v=>Value.isInt k v
 |.inr x,v=>Value.isStrOf x v
def Yj(w:World):Key->Int
 |.inl k=>hashInt k
 |.inr x=>hashStr w x
def m8:∀{k} {v},rX k v=true->(∃i t,k=Sum.inl i/\v=Value.int i t)\/(∃x t,k=Sum.inr x/\v=Value.str x t)
 |.inl i,v,h=>by
  let#[t,e]:=Value.isInt_shape h;apply .inl #[i,t,rfl,e]
 |.inr x,v,h=>by
  let#[t,e]:=Value.isStrOf_shape h;apply .inr #[x,t,rfl,e]
def abe(i:Int)(t:Tok):rX (.inl i) (.int i t)=true:=by simp[rX,Value.isInt]
def ac1(x:Str)(t:Tok):rX (.inr x) (.str x t)=true:=by simp[rX,Value.isStrOf]
def Uy(a b:Int):decide ((Sum.inl a:Key)=Sum.inl b)=(a==b):=by
 by_cases e:a=b
 .subst e;simp
 .have h:¬(Sum.inl a:Key)=Sum.inl b:=λq=>e (aiV q)
  rw[aa8 h];apply(ad3.mpr e).symm
def adk(a b:Str):decide ((Sum.inr a:Key)=Sum.inr b)=decide (a=b):=by
 by_cases e:a=b
 .subst e;simp
 .have h:¬(Sum.inr a:Key)=Sum.inr b:=λq=>e (Sum.inr.inj q)
  rw[aa8 h,aa8 e]
def ab2(a:Int)(b:Str):decide ((Sum.inl a:Key)=Sum.inr b)=false:=aa8 (λq=>nomatch q)
def af6(a:Str)(b:Int):decide ((Sum.inr a:Key)=Sum.inl b)=false:=aa8 (λq=>nomatch q)
def ie(prog:Program)(w:World):PySem.KeyKind prog w Key where
 is:=rX
 hash:=Yj w
 inj:=λv a b ha hb=>by
  rcases m8 ha with⟨i,t,rfl,rfl⟩|⟨x,t,rfl,rfl⟩
  .rcases m8 hb with⟨j,u,rfl,e⟩|⟨y,u,rfl,e⟩
   .injection e with e1 _;rw[e1]
   .exact nomatch e
  .rcases m8 hb with⟨j,u,rfl,e⟩|⟨y,u,rfl,e⟩
   .exact nomatch e
   .injection e with e1 _;rw[e1]
 byValue:=λk v h=>by
  rcases m8 h with⟨i,t,rfl,rfl⟩|⟨x,t,rfl,rfl⟩<;>rfl
 pyHash:=λhv h=>by
  rcases m8 hv with⟨i,t,rfl,rfl⟩|⟨x,t,rfl,rfl⟩
  .exact wpAny_pyHash_int h
  .exact wpAny_pyHash_str h
 eqBool:=λhu hv h=>by
  rcases m8 hu with⟨i,t,rfl,rfl⟩|⟨x,t,rfl,rfl⟩
  .rcases m8 hv with⟨j,u,rfl,rfl⟩|⟨y,u,rfl,rfl⟩
   .rw[Uy] at h;apply wpAny_eqBool_int h
   .rw[ab2] at h;apply SeqAt.EqAt.int_str i t y u _ _ _ _ h
  .rcases m8 hv with⟨j,u,rfl,rfl⟩|⟨y,u,rfl,rfl⟩
   .rw[af6] at h;apply SeqAt.EqAt.str_int x t j u _ _ _ _ h
   .rw[adk] at h;apply wpAny_eqBool_str h
 «strs»:=λk x t v h=>by
  rcases m8 h with⟨i,u,rfl,e⟩|⟨y,u,rfl,e⟩
  .exact nomatch e
  .injection e with e1 _;subst e1;ext v<;>rfl
def afR(prog:Program)(w:World)(i:Int)(t:Tok):(ie prog w).is (.inl i) (.int i t)=true:=abe i t
def XG(prog:Program)(w:World)(x:Str)(t:Tok):(ie prog w).is (.inr x) (.str x t)=true:=ac1 x t
inductive V where
 |aC|bl (b:Bool)|int (i:Int)|str (x:Str)|j8 (b:Array UInt8)|tS (b:UInt64)|ref (a:Addr)|ty (n:String)
 deriving DecidableEq
def RelV:V->Value->Prop
 |.aC,u=>u=Value.none
 |.bl b,u=>u=Value.bool b
 |.int i,u=>∃t,u=Value.int i t
 |.str x,u=>∃t,u=Value.str x t
 |.j8 b,u=>∃t,u=Value.bytes b t
 |.tS b,u=>∃t,u=Value.float b t
 |.ref a,u=>u=Value.ref a
 |.ty n,u=>u=Value.type n
abbrev aR:List V->List Value->Prop:=Paired RelV
def aR.length(r:aR xs us):xs.length=us.length:=Paired.length r
def aR.get:∀{xs} {us}{i:Nat} {x},aR xs us->xs[i]? = some x->∃u,us[i]? = some u/\RelV x u
 |_,_,_,_,.nil,e=>by simp at e
 |_,_,0,_,.cons r _,e=>by simp at e;subst e;apply#[_,rfl,r]
 |_,_,i+1,x,.cons _ t,e=>by
  let#[u,h1,h2]:=aR.get t (by simpa using e);apply#[u,by simpa using h1,h2]
def aR.append:∀{xs ys} {us ws},aR xs us->aR ys ws->aR (xs++ys) (us++ws)
 |_,_,_,_,.nil,s=>s
 |_,_,_,_,.cons r t,s=>.cons r (aR.append t s)
def aR.take:∀{xs} {us} (n),aR xs us->aR (xs.take n) (us.take n)
 |_,_,0,_=>.nil
 |_,_,_+1,.nil=>.nil
 |_,_,n+1,.cons r t=>.cons r (aR.take n t)
def aR.drop:∀{xs} {us} (n),aR xs us->aR (xs.drop n) (us.drop n)
 |_,_,0,r=>r
 |_,_,_+1,.nil=>.nil
 |_,_,n+1,.cons _ t=>aR.drop n t
def iH:Option V->Option Value->Prop
 |some v,some u=>RelV v u
 |none,none=>True
 |_,_=>False
def KV{κ:Type}:List (κ×V)->List (κ×Value)->Prop:=Paired λ(p:κ×V) (q:κ×Value)=>p.1=q.1/\RelV p.2 q.2
def kV:Key->V
 |.inl i=>.int i
 |.inr x=>.str x
def kZ(h:Heap)(a:Addr)(items:Array Value):Prop:=∃o,h.get? a=some o/\o.cls=.type "tuple"/\o.dict=none/\∃n,o.data=.seq items n
def kZ.isTup(x:kZ h a items):IsTup h a items:=let#[o,e,c,_,d]:=x;#[o,e,c,d]
def kZ.lt(x:kZ h a items):a<h.objs.size:=let#[_,e,_]:=x;abh e
def kZ.new(h:Heap)(items:Array Value):kZ (h.push { cls:=.type "tuple",data:=.seq items }) h.objs.size items:=#[_,ab4 _ rfl,rfl,rfl,_,rfl]
inductive HO where
 |lst (xs:List V)
 |tup (xs:List V)
 |dK (ak:List (Key×V))|dT (ak:List (List Key×V))
 |set (S:Int->Bool) (n:Nat)
 |ins (C dx:Addr) (fs:List (Str×V))
 |own (x:Addr)
 |xd (fs:List (Str×V))
 |met (f x:Addr)
 |aJ (lo hi:Int)
 |dZ (o:Obj) (u:HO)
 |qo (ps:Array Value)
 |iU (q:Str) (pos:Pos)|jq (q:Str)
 |ext (φ:Heap->Prop)
abbrev Hp:=Addr->Option HO
inductive l7 where
 |tup (xs:List V)|vL (o:Obj) (xs:List V)|iU (q:Str) (pos:Pos)|jq (q:Str)
def l7.ho:l7->HO
 |.tup xs=>.tup xs
 |.vL o xs=>.dZ o (.tup xs)
 |.iU q p=>.iU q p
 |.jq q=>.jq q
def l7.tp:l7->Option (List V)
 |.tup xs=>some xs
 |.vL _ xs=>some xs
 |_=>none
def Tk(H:Hp)(b:Addr)(xs:List V):Prop:=∃t:l7,t.tp=some xs/\H b=some t.ho
def upd(H:Hp)(a:Addr)(o:HO):Hp:=λb=>if b=a then some o else H b
def bX:upd H a o a=some o:=by unfold upd;rw[if_pos rfl]
def aN(h:b≠a):upd H a o b=H b:=by unfold upd;rw[abo h]
def afP{H:Hp}(h:H a=some o)(h':H b=some u)(d:o≠u):a≠b:=by
 intro e;subst e;rw[h] at h';apply d (ach h')
def cX{H:Hp}(h:H a=some o)(h':H b=none):a≠b:=by
 intro e;subst e;rw[h] at h';ext h'
section
variable(P:Program)(w:World)
def dJ(H:Hp)(h:Heap)(a:Addr):HO->Prop
 |.lst xs=>xs.length<=sizeLine/\∃(ay:List Value) (n:Nat),aR xs ay/\h.get? a=some { cls:=.type "list",data:=.seq ay.toArray n }
 |.tup xs=>xs.length<=sizeLine/\∃ay:List Value,aR xs ay/\kZ h a ay.toArray
 |.dK ak=>ak.length<=sizeLine/\(a==sysModules)=false/\∃vs,KV ak vs/\h.DictOf (ie P w) a vs
 |.dT ak=>ak.length<=sizeLine/\(a==sysModules)=false/\∃xs:List (List Key×Addr×Value),
   Paired (λ(p:List Key×V) (q:List Key×Addr×Value)=>p.1=q.1/\Tk H q.2.1 (p.1.map kV)/\RelV p.2 q.2.2) ak xs/\
   ∃o es ep,h.get? a=some o/\o.ExactDict/\o.data=.dict es ep/\es.toList=xs.map (entryOfKey (tupleKind (ie P w)))/\(xs.map (·.1)).Nodup
 |.set S n=>h.SetOf (intKind P w) a S n
 |.ins C dx fs=>H dx=some (.own a)/\fs.length<=1000/\dx≠a/\h.get? a=some (PySem.W.instObj C dx)/\
   ∃mA,h.Ns1 dx mA/\(∀f,iH (fs.lookup f) (mA f))/\PySem.Within mA (fs.map (·.1))
 |.own _=>∃o,h.get? a=some o
 |.xd fs=>∃mA,h.Ns1 a mA/\∀f,iH (fs.lookup f) (mA f)
 |.aJ lo hi=>∃t u v,h.get? a=some { cls:=.type "range",data:=.fields ([.int lo t,.int hi u,.int 1 v].toArray) }
 |.dZ o u=>h.get? a=some o/\dJ H h a u
 |.qo ps=>h.get? a=some { cls:=.none,data:=.fields ps }
 |.iU q pos=>∃ps:Array Value,h.get? a=some { cls:=.none,data:=.fields ps }/\(ps=([].toArray)\/∃c,ps=([rawInt pos.line,rawInt pos.col,.ref c].toArray)/\H c=some (.jq q))
 |.jq q=>h.CodeRec (.ref a) q
 |.met f x=>h.get? a=some (PySem.W.methodObj (.ref f) (.ref x))
 |.ext φ=>φ h/\(∃o,h.get? a=some o)/\∀h1 h2:Heap,φ h1->(∀o,h1.get? a=some o->h2.get? a=some o)->φ h2
def c9(H:Hp)(h:Heap):Prop:=∀a o,H a=some o->dJ P w H h a o
end
def dJ.lt(x:dJ P w H h a o):a<h.objs.size:=by
 cases o with
 |lst xs=>let#[_,_,_,_,e]:=x;apply abh e
 |tup xs=>let#[_,_,_,p]:=x;apply p.lt
 |dK ak=>let#[_,_,_,_,o,_,_,e,_]:=x;apply abh e
 |dT ak=>let#[_,_,_,_,o,_,_,e,_]:=x;apply abh e
 |set S n=>let#[o,_,_,_,e,_]:=x;apply abh e
 |ins C dx fs=>let#[_,_,_,e,_]:=x;apply abh e
 |own y=>let#[_,e]:=x;apply abh e
 |xd fs=>let#[_,#[_,_,_,e,_],_]:=x;apply abh e
 |aJ lo hi=>let#[_,_,_,e]:=x;apply abh e
 |dZ ob u=>let#[e,_]:=x;apply abh e
 |qo ps=>apply abh (show h.get? a=some _ from x)
 |iU q pos=>let#[_,e,_]:=x;apply abh e
 |jq q=>let#[_,_,_,_,e,g,_]:=x;ext e;apply abh g
 |met f y=>apply abh (show h.get? a=some _ from x)
 |ext φ=>let#[_,#[_,e],_]:=x;apply abh e
def Paired.Bv:∀{Ov} {PF},Paired F Ov PF->(∀a b,F a b->G a b)->Paired G Ov PF
 |_,_,.nil,_=>.nil
 |_,_,.cons r t,f=>.cons (f _ _ r) (Paired.Bv t f)
def dJ.gH(x:dJ P w H h a o)(k:∀b u,(b=a\/H b=some (.own a))->h.get? b=some u->h'.get? b=some u)
  (ho:∀b,H b=some (.own a)->H' b=some (.own a)) (ht:∀b (t:l7),H b=some t.ho->H' b=some t.ho):dJ P w H' h' a o:=by
 induction o with
 |lst xs=>let#[z,ay,n,r,e]:=x;apply#[z,ay,n,r,k _ _ (.inl rfl) e]
 |tup xs=>let#[z,ay,r,ob,e,c]:=x;apply#[z,ay,r,ob,k _ _ (.inl rfl) e,c]
 |dK ak=>let#[z,y,vs,r,ob,es,ep,e,c]:=x;apply#[z,y,vs,r,ob,es,ep,k _ _ (.inl rfl) e,c]
 |dT ak=>
  let#[z,y,xs,r,ob,es,ep,e,c]:=x;apply#[z,y,xs,Paired.Bv r λp q z=>#[z.1,let#[t,e,g]:=z.2.1;#[t,e,ht _ t g],z.2.2],ob,es,ep,k _ _ (.inl rfl) e,c]
 |set S n=>let#[ob,es,ep,t,e,c]:=x;apply#[ob,es,ep,t,k _ _ (.inl rfl) e,c]
 |ins C dx fs=>
  let#[d,z,ne,e,mA,#[od,es,ep,e2,c],r]:=x;apply#[ho _ d,z,ne,k _ _ (.inl rfl) e,mA,#[od,es,ep,k _ _ (.inr d) e2,c],r]
 |own y=>let#[ob,e]:=x;apply#[ob,k _ _ (.inl rfl) e]
 |xd fs=>let#[mA,#[od,es,ep,e,c],r]:=x;apply#[mA,#[od,es,ep,k _ _ (.inl rfl) e,c],r]
 |aJ lo hi=>let#[t,u,v,e]:=x;apply#[t,u,v,k _ _ (.inl rfl) e]
 |dZ ob u ih=>let#[e,q]:=x;apply#[k _ _ (.inl rfl) e,ih q]
 |iU q pos=>let#[ps,e,g]:=x;apply#[ps,k _ _ (.inl rfl) e,g.imp id λ⟨c,e1,e2⟩=>#[c,e1,ht c (.jq q) e2]]
 |jq q=>let#[_,o,vs,t,e,g,r]:=x;ext e;apply#[_,o,vs,t,rfl,k _ _ (.inl rfl) g,r]
 |qo ps=>
  have e:=x;apply k a _ (.inl rfl) e
 |met f y=>
  have e:=x;apply k a _ (.inl rfl) e
 |ext φ=>let#[p,#[o,e],st]:=x;apply#[st _ _ p λo q=>k _ _ (.inl rfl) q,#[o,k _ _ (.inl rfl) e],st]
def c9.lt(x:c9 P w H h)(e:H a=some o):a<h.objs.size:=(x a o e).lt
def c9.fresh(x:c9 P w H h)(e:h.objs.size<=a):H a=none:=by
 cases q:H a with
 |none=>rfl
 |some u=>apply absurd (ac9 (x.lt q) e) (afO _)
def c9.kept(x:c9 P w H h)(k:∀b u,h.get? b=some u->h'.get? b=some u):c9 P w H h':=λa o e=>
 (x a o e).gH (λb u _ q=>k b u q) (λ_ q=>q) λ_ _ q=>q
def c9.laid(x:c9 P w H h)(k:∀b u,h.get? b=some u->h'.get? b=some u)(hp:h.objs.size<=a)(new:dJ P w (upd H a o) h' a o):c9 P w (upd H a o) h':=λb u e=>by
 have hn:=x.fresh hp
 by_cases hb:b=a
 .subst hb;rw[bX] at e;ext e;apply new
 .rw[aN hb] at e;apply(x b u e).gH (λc v _ q=>k c v q) (λc q=>by rw[aN (cX q hn)];apply q) λc xs q=>by rw[aN (cX q hn)];apply q
def Rd(H:Hp)(a:Addr)(u:HO):Prop:=H a=some u\/∃o,H a=some (.dZ o u)
def Rd.ok(r:Rd H a u)(x:c9 P w H h):dJ P w H h a u:=by
 rcases r with r|⟨o,r⟩
 .exact x a u r
 .let#[_,q]:=x a _ r;apply q
def xE:Option HO->Prop
 |some (.lst _)=>True
 |some (.dK _)=>True
 |some (.dT _)=>True
 |some (.set _ _)=>True
 |some (.ins _ _ _)=>True
 |some (.ext _)=>True
 |_=>False
def c9.write(ok:c9 P w H h)(mu:xE (H x))(he:e=x\/H e=some (.own x))(k:∀b u,b≠e->h.get? b=some u->h'.get? b=some u)(uX:∃u,h'.get? e=some u)
  (new:dJ P w (upd H x o') h' x o'):c9 P w (upd H x o') h':=λb u q=>by
 have Rn:∀c y,H c=some (.own y)->c≠x:=λc y r z=>by subst z;rw[r] at mu;apply mu
 have afG:∀c (t:l7),H c=some t.ho->c≠x:=λc t r z=>by subst z;rw[r] at mu;ext t<;>apply mu
 by_cases hb:b=x
 .subst hb;rw[bX] at q;ext q;apply new
 .rw[aN hb] at q
  by_cases s_:b=e
  .have q':H b=some (.own x):=by
    rcases he with z|z
    .exact absurd (s_.trans z) hb
    .rw[s_];apply z
   rw[q] at q';ext q';let#[v,hv]:=uX;apply#[v,by rw[s_];apply hv]
  .refine(ok b u q).gH (λc v hc r=>k c v ?_ r) (λc r=>by rw[aN (Rn c b r)];apply r) λc xs r=>by rw[aN (afG c xs r)];apply r
   rcases hc with rfl|hc
   .exact s_
   .rintro rfl
    rcases he with z|z
    .exact Rn c b hc z
    .rw[hc] at z;ext z;apply hb rfl
structure Un(fs ex:List Addr)(H H':Hp)(h h':Heap):Prop where
 keep:∀b o,h.get? b=some o->H b=none->b∉fs->b∉ex->h'.get? b=some o
 slot:∀b o,h.get? b=some o->H b=none->b∈fs->b∉ex->∃sl,h'.get? b=some { o with slots:=sl }
 free:∀b o,h.get? b=some o->H b=none->b∉ex->H' b=none
 there:∀b o,h.get? b=some o->b∉ex->∃o',h'.get? b=some o'
 jw:∀b (t:l7),H b=some t.ho->H' b=some t.ho
 jh:∀b o u,H b=some (.dZ o u)->H' b=some (.dZ o u)
 jU:∀b ps,H b=some (.qo ps)->∃more,H' b=some (.qo (ps++more))
def Un.any(u:Un fs ex H H1 h h1)(q:h.get? b=some ob)(n:H b=none)(hx:b∉ex):∃sl,h1.get? b=some { ob with slots:=sl }:=by
 by_cases hb:b∈fs
 .exact u.slot b ob q n hb hx
 .exact#[ob.slots,u.keep b ob q n hb hx]
def Un.kept(k:∀b u,h.get? b=some u->h'.get? b=some u):Un fs ex H H h h':=
 #[λb ob q _ _ _=>k b ob q,λb ob q _ _ _=>#[ob.slots,k b ob q],λ_ _ _ n _=>n,λb ob q _=>#[ob,k b ob q],λ_ _ q=>q,λ_ _ _ q=>q,λ_ ps q=>#[([].toArray),by rw[q];simp]]
def Un.refl:Un fs ex H H h h:=Un.kept λ_ _ q=>q
def Un.laid(k:∀b u,h.get? b=some u->h'.get? b=some u)(hp:h.objs.size<=a)(hn:H a=none):Un fs ex H (upd H a o) h h' where
 keep:=λb u q _ _ _=>k b u q
 slot:=λb u q _ _ _=>#[u.slots,k b u q]
 free:=λb u q n _=>by rw[aN (acV (ac9 (abh q) hp))];apply n
 there:=λb u q _=>#[u,k b u q]
 jw:=λb xs q=>by rw[aN (cX q hn)];apply q
 jh:=λb u xs q=>by rw[aN (cX q hn)];apply q
 jU:=λb ps q=>#[([].toArray),by rw[aN (cX q hn),q];simp]
def Un.write(mu:xE (H x))(he:e=x\/H e=some (.own x))(k:∀b u,b≠e->h.get? b=some u->h'.get? b=some u)(uX:∃u,h'.get? e=some u):Un fs ex H (upd H x o) h h':=by
 have hx:∀b,H b=none->b≠x:=λb n z=>by subst z;rw[n] at mu;apply mu
 have hb:∀b,H b=none->b≠e:=λb n z=>by
  subst z;rcases he with r|r
  .exact hx b n r
  .rw[n] at r;ext r
 have hm:∀b u,H b=some u->¬xE (some u)->b≠x:=λb u q nm z=>by subst z;rw[q] at mu;apply nm mu
 refine#[λb u q n _ _=>k b u (hb b n) q,λb u q n _ _=>#[u.slots,k b u (hb b n) q],λb u q n _=>by rw[aN (hx b n)];apply n,λb u q _=>?_,
  λb xs q=>by rw[aN (hm b _ q (by ext xs<;>apply λz=>z))];apply q,λb u xs q=>by rw[aN (hm b _ q λz=>z)];apply q,λb ps q=>#[([].toArray),by rw[aN (hm b _ q λz=>z),q];simp]]
 by_cases s_:b=e
 .subst s_;apply uX
 .exact#[u,k b u s_ q]
def Ab(h:Heap)(H:Hp):List Addr:=(List.range h.objs.size).filter λa=>(H a).isSome
def qM(h:Heap)(H:Hp):Heap:=PySem.W.hideAll h (Ab h H)
def aaX(h:Heap)(H:Hp):(qM h H).objs.size=h.objs.size:=PySem.W.hideAll_size _ _
def J6(e:h.get? b=some o)(n:H b=none):(qM h H).get? b=some o:=
 PySem.W.hideAll_get _ e λhm=>by
  have q:=(adh.mp hm).2;rw[n] at q;simp at q
def afz(e:(qM h H).get? b=some o):h.get? b=some o/\H b=none:=by
 have e':=PySem.W.of_hideAll (Ab h H) e;refine#[e',?_];cases q:H b with
 |none=>rfl
 |some x=>
  have hm:b∈Ab h H:=adh.mpr #[ahD.mpr (abh e'),by simp[q]];have z:(qM h H).get? b=none:=PySem.W.hideAll_none (Ab h H) hm;rw[z] at e;ext e
structure Mod(K:Fr)(mg:Str->Option Value)(base:Heap):Prop where
 rO:K.In base
 glob:base.Ns mainGlobals mg
 blt:∃mb,base.Ns builtinsNs mb/\∀x:Str,x≠"__name__"->mb x=bootBuiltins x
 nolimit:base.NoLimit
 bmn:∃bm ob,mg "__builtins__"=some (.ref bm)/\bm≠builtinsNs/\base.get? bm=some ob/\ob.cls=.type "module"/\ob.dict=some builtinsNs/\ob.data=.plain
structure Cx where
 prog:Program
 w:World
 K:Fr
 mg:Str->Option Value
 base:Heap
 A:Around
 N:List Str
 cT:Shared
 vZ:Hp
 env:Env
 outer:List Env
 stack:List Env
 ex:List Addr
 fn:Str->Bool
 calm:Bool
 pn:List (Addr×Obj)
 xe:Value->Shared->Prop
def aY(l:List Env):List Addr:=l.filterMap (·.frame)
abbrev Cx.fs(X:Cx):List Addr:=aY X.outer
def HZ(sc:Scope)(x:Str):Prop:=sc.names.lookup x=some .local\/sc.names.lookup x=some .cell\/sc.names.lookup x=some .free
def Loc(sc:Scope)(x:Str):Prop:=sc.names.lookup x=some .local\/sc.names.lookup x=some .cell
def Look(env:Env)(h:Heap)(m:Str->Option Value)(x:Str)(u:Value):Prop:=
 (env.kindOf x=some .local/\m x=some u)\/((env.kindOf x=some .cell\/env.kindOf x=some .free)/\∃c,env.cells.lookup x=some c/\h.IsCell c (some u))
structure Cx.Ok(X:Cx):Prop where
 mod:Mod X.K X.mg X.base
 kind:X.env.scope.kind=.function
 glob:X.env.globals=mainGlobals
 blt:X.env.builtins=builtinsNs
 above:X.cT.heap.objs.size<=X.env.locals
 inj:∀x y c,X.env.cells.lookup x=some c->X.env.cells.lookup y=some c->x=y
 has:∀x,(X.env.kindOf x=some .cell\/X.env.kindOf x=some .free)->∃c,X.env.cells.lookup x=some c
 pY:∀x c,X.fn x=true->X.env.cells.lookup x=some c->X.cT.heap.objs.size<=c
 hd:X.calm=true->X.A.handled=none
 frames:X.A.frames=some X.stack
 qF:X.stack=X.outer\/(X.stack=X.env::X.outer/\X.env.frame=some X.env.locals)
 tu:∀b∈X.ex,b≠X.env.locals/\∀x c,X.env.cells.lookup x=some c->c≠b
 bs:∀b o,X.base.get? b=some o->X.cT.heap.get? b=some o/\X.vZ b=none
 jn:X.base.objs.size<=X.cT.heap.objs.size
 pG:∀b o,X.base.get? b=some o->b∉X.ex
 o_:∀b∈X.ex,b∉X.fs
 jf:X.cT.heap.FunFrames X.base X.outer
 lW:∀b∈X.fs,X.vZ b=none
def ug(A:Around)(H:Hp):Prop:=A.handled=none\/∃(a:Addr) (ob:Obj) (u:HO) (vs:Array Value),A.handled=some (.ref a)/\H a=some (.dZ ob u)/\ob.data=.fields vs/\vs[2]? = some .none
def ug.mono(h:ug A H)(f:∀b o u,H b=some (.dZ o u)->H' b=some (.dZ o u)):ug A H':=h.elim .inl λ⟨a,ob,u,vs,h1,h2,h3⟩=>.inr #[a,ob,u,vs,h1,f _ _ _ h2,h3]
structure Hq(K:Fr)(A:Around)(H:Hp):Prop where
 hd:ug A H
 ok:x_ K=true
 lm:∀r∈jg K,H r.2.1=some (.iU r.2.2.1 r.2.2.2)
def Hq.mono{K:Fr}(h:Hq K A H)(f:∀b o u,H b=some (.dZ o u)->H' b=some (.dZ o u))(g:∀b (t:l7),H b=some t.ho->H' b=some t.ho):Hq K A H':=
 #[h.hd.mono f,h.ok,λr m=>g _ (.iU _ _) (h.lm r m)]
structure Inv(X:Cx)(af:List (Addr×Obj))(U:List (Option V))(H:Hp)(s:Shared):Prop where
 ok:X.Ok
 os:s.os=X.cT.os
 bare:AllBare s.gens
 base:Un X.fs X.ex X.vZ H X.cT.heap s.heap
 loc:∃m,s.heap.Ns X.env.locals m/\∀(i:Nat) (x) (v),X.N[i]? = some x->U[i]? = some (some v)->HZ X.env.scope x->∃u,RelV v u/\Look X.env s.heap m x u
 cell:∀x c,X.env.cells.lookup x=some c->∃v,s.heap.IsCell c v
 free:H X.env.locals=none
 gU:∀x c,X.env.cells.lookup x=some c->H c=none
 pin:∀p∈X.pn++af,s.heap.get? p.1=some p.2/\H p.1=none/\p.1≠X.env.locals/\p.1∉X.fs/\∀v,p.2.data≠.cell v
 aG:c9 X.prog X.w H s.heap
 len:U.length=X.N.length
 hq:Hq X.K X.A H
section
variable{X:Cx}
def Cx.Ok.afq(ok:X.Ok)(e:X.base.get? b=some o):b∉X.fs:=λhb=>by
 have:=(ok.jf.mem hb).1;rw[e] at this;ext this
def Inv.bs(I:Inv X af U H s):∀b o,X.base.get? b=some o->s.heap.get? b=some o/\H b=none:=λb o e=>
 #[I.base.keep b o (I.ok.bs b o e).1 (I.ok.bs b o e).2 (I.ok.afq e) (I.ok.pG b o e),I.base.free b o (I.ok.bs b o e).1 (I.ok.bs b o e).2 (I.ok.pG b o e)]
def Inv.bk(I:Inv X af U H s):∀b o,X.base.get? b=some o->s.heap.get? b=some o:=λb o e=>(I.bs b o e).1
def Inv.mod(I:Inv X af U H s):Mod X.K X.mg X.base:=I.ok.mod
def Inv.cU(I:Inv X af U H s):X.K.In s.heap:=I.ok.mod.rO.keeps I.bk
def Inv.lt(I:Inv X af U H s):X.env.locals<s.heap.objs.size:=let#[_,hn,_]:=I.loc;hn.lt
def Inv.sz(I:Inv X af U H s):X.cT.heap.objs.size<=s.heap.objs.size:=af0 I.ok.above (af4 I.lt)
def Inv.Ms(I:Inv X af U H s)(h:s.heap.objs.size<=a):a∉X.fs:=λhb=>by
 let#[_,o,ho,_]:=I.ok.jf.mem hb;apply absurd (ac9 (abh ho) (af0 I.sz h)) (afO _)
def Inv.kc(I:Inv X af U H s):∀x c,X.env.cells.lookup x=some c->c≠X.env.locals:=λx c e z=>by
 let#[v,o,ho,hd]:=I.cell x c e;let#[m,#[o',es,ep,mL,HR,_],_]:=I.loc;rw[z,mL] at ho;ext ho;rw[HR] at hd;ext hd
def Inv.jf(I:Inv X af U H s):s.heap.FunFrames X.base X.outer:=by
 have all:∀(l:List Env),(∀b∈aY l,b∈X.fs)->X.cT.heap.FunFrames X.base l->s.heap.FunFrames X.base l:=by
  intro l
  induction l with
  |nil=>intro _ _;trivial
  |cons env r ih=>
   intro hs hl;let#[hk,#[L,o,hf,hn,ho,hd],hr]:=hl;have hL:=hs L (by unfold aY;rw[afi,hf];apply aah);let#[sl,e]:=I.base.slot L o ho (I.ok.lW L hL) hL λz=>I.ok.o_ L z hL
   apply#[hk,#[L,_,hf,hn,e,hd],ih (λb hb=>hs b (by unfold aY;rw[afi,hf];apply aab _ hb)) hr]
 apply all X.outer (λ_ hb=>hb) I.ok.jf
def Inv.stack(I:Inv X af U H s):s.heap.FunFrames X.base X.stack:=by
 rcases I.ok.qF with e|⟨e,hf⟩
 .rw[e];apply I.jf
 .rw[e];let#[m,hn,_]:=I.loc;refine .cons (by rw[I.ok.kind];decide) hf hn ?_ I.jf;apply aiH (af0 I.ok.jn I.ok.above)
def Inv.BV(I:Inv X af U H s):∀b∈aY X.stack,b∈X.env.locals::X.fs:=λb hb=>by
 rcases I.ok.qF with e|⟨e,hf⟩
 .rw[e] at hb;apply aab _ hb
 .rw[e] at hb;unfold aY at hb;rw[afi,hf] at hb;apply hb
def Inv.vj(I:Inv X af U H s):∀b∈aY X.stack,H b=none:=λb hb=>by
 rcases aaO.mp (I.BV b hb) with e|hb
 .rw[e];apply I.free
 .let#[_,o,ho,_]:=I.ok.jf.mem hb;apply I.base.free b o ho (I.ok.lW b hb) λz=>I.ok.o_ b z hb
def Inv.step{ch:List Addr}(I:Inv X af U H s)
  (nh:∀b∈ch,(b∈X.ex\/X.cT.heap.objs.size<=b)/\b≠X.env.locals/\(∀x c,X.env.cells.lookup x=some c->c≠b)/\∀p∈X.pn++af,p.1≠b)
  (keep:∀b o,b≠X.env.locals->b∉X.fs->b∉ch->s.heap.get? b=some o->H b=none->h'.get? b=some o)
  (slot:∀b o,b≠X.env.locals->b∈X.fs->b∉ch->s.heap.get? b=some o->H b=none->∃sl,h'.get? b=some { o with slots:=sl }) (free:∀b o,b∉ch->s.heap.get? b=some o->H b=none->H' b=none)
  (there:∀b o,b∉ch->s.heap.get? b=some o->∃o',h'.get? b=some o')
  (jw:∀b (t:l7),H b=some t.ho->H' b=some t.ho) (jh:∀b o u,H b=some (.dZ o u)->H' b=some (.dZ o u)) (jU:∀b ps,H b=some (.qo ps)->∃more,H' b=some (.qo (ps++more)))
  (ns:∀m,s.heap.Ns X.env.locals m->h'.Ns X.env.locals m) (aG:c9 X.prog X.w H' h') (hg:AllBare g') :
  Inv X af U H' { s with heap:=h',gens:=g',drawn:=d',toks:=t' }:=by
 have Ci:∀b o,X.cT.heap.get? b=some o->b≠X.env.locals:=λb o e=>acV (ac9 (abh e) I.ok.above)
 have CQ:∀b o,X.cT.heap.get? b=some o->b∉X.ex->b∉ch:=λb o e hx hb=>by
  rcases(nh b hb).1 with z|z
  .exact hx z
  .exact absurd (ac9 (abh e) z) (afO _)
 have cellK:∀x c,X.env.cells.lookup x=some c->∀v,s.heap.IsCell c v->h'.IsCell c v:=λx c e v #[o,ho,hd]=>by
  have mC:c∉ch:=λz=>(nh c z).2.2.1 x c e rfl
  by_cases hc:c∈X.fs
  .let#[sl,q]:=slot c o (I.kc x c e) hc mC ho (I.gU x c e);apply#[_,q,hd]
  .exact#[o,keep c o (I.kc x c e) hc mC ho (I.gU x c e),hd]
 refine#[I.ok,I.os,hg,#[λb o e n hb hx=>?_,λb o e n hb hx=>?_,λb o e n hx=>?_,λb o e hx=>?_,λb xs e=>jw b xs (I.base.jw b xs e),λb o xs e=>jh b o xs (I.base.jh b o xs e),λb ps e=>?_],?_,λx c e=>?_,?_,λx c e=>?_,λp hp=>?_,aG,I.len,I.hq.mono jh jw]
 .exact keep b o (Ci b o e) hb (CQ b o e hx) (I.base.keep b o e n hb hx) (I.base.free b o e n hx)
 .let#[sl,e1]:=I.base.slot b o e n hb hx;let#[qT,e2]:=slot b _ (Ci b o e) hb (CQ b o e hx) e1 (I.base.free b o e n hx);apply#[qT,e2]
 .let#[o',e1]:=I.base.there b o e hx;apply free b o' (CQ b o e hx) e1 (I.base.free b o e n hx)
 .let#[o',e1]:=I.base.there b o e hx;apply there b o' (CQ b o e hx) e1
 .let#[m1,e1]:=I.base.jU b ps e;let#[m2,e2]:=jU b _ e1;apply#[m1++m2,by rw[e2,Array.append_assoc]]
 .let#[m,hn,hl]:=I.loc;refine#[m,ns m hn,λi x v e1 e2 e3=>?_];let#[u,r,l]:=hl i x v e1 e2 e3;refine#[u,r,?_];rcases l with l|⟨k,c,e,z⟩
  .exact .inl l
  .exact .inr #[k,c,e,cellK x c e _ z]
 .let#[v,z]:=I.cell x c e;apply#[v,cellK x c e v z]
 .let#[m,#[o,_,_,ho,_],_]:=I.loc;apply free _ o (λz=>(nh _ z).2.1 rfl) ho I.free
 .let#[v,o,ho,hd]:=I.cell x c e;apply free c o (λz=>(nh c z).2.2.1 x c e rfl) ho (I.gU x c e)
 .let#[e,n,ne,nf,d]:=I.pin p hp;have mC:p.1∉ch:=λz=>(nh p.1 z).2.2.2 p hp rfl
  apply#[keep p.1 p.2 ne nf mC e n,free p.1 p.2 mC e n,ne,nf,d]
def Inv.un(I:Inv X af U H s)(u:Un X.fs [] H H' s.heap h')(aG:c9 X.prog X.w H' h'):Inv X af U H' { s with heap:=h',toks:=t' }:=by
 let#[m,#[o,es,ep,ho,r],_]:=id I.loc;let#[sl,hL]:=u.any ho I.free (by simp);apply I.step (g':=s.gens) (d':=s.drawn) (ch:=[]) (λ_ z=>nomatch z) (λb o _ hb _ e n=>u.keep b o e n hb (by simp)) (λb o _ hb _ e n=>u.slot b o e n hb (by simp)) (λb o _ e n=>u.free b o e n (by simp)) (λb o _ e=>u.there b o e (by simp)) u.jw u.jh u.jU (λm' hm=>by
  let#[o',y_,yS,mL,r']:=hm;rw[ho] at mL;ext mL;apply#[_,y_,yS,hL,r']) aG I.bare
def Inv.call{ch:List Addr}(I:Inv X af U H s)(u:Un (aY X.stack) ch H H' s.heap h')(aG:c9 X.prog X.w H' h')(hg:AllBare g')
  (nh:∀b∈ch,(b∈X.ex\/X.cT.heap.objs.size<=b)/\b≠X.env.locals/\(∀x c,X.env.cells.lookup x=some c->c≠b)/\∀p∈X.pn++af,p.1≠b) :
  Inv X af U H' { s with heap:=h',gens:=g',drawn:=d',toks:=t' }:=by
 let#[m,#[o,es,ep,ho,r],_]:=id I.loc;let#[sl,hL]:=u.any ho I.free λz=>(nh _ z).2.1 rfl
 apply I.step (ch:=ch) nh (λb o hL hb hc e n=>u.keep b o e n (λz=>(aaO.mp (I.BV b z)).elim hL hb) hc) (λb o _ _ hc e n=>u.any e n hc) (λb o hc e n=>u.free b o e n hc) (λb o hc e=>u.there b o e hc) u.jw u.jh u.jU (λm' hm=>by
  let#[o',y_,yS,mL,r']:=hm;rw[ho] at mL;ext mL;apply#[_,y_,yS,hL,r']) aG hg
def Inv.turned{it:Addr}(I:Inv X af U H s)(k:∀b o,b≠it->s.heap.get? b=some o->h'.get? b=some o)(hn:H it=none)(hL:it≠X.env.locals)
  (h1:it∈X.ex\/X.cT.heap.objs.size<=it) (h2:∀x c,X.env.cells.lookup x=some c->c≠it) (h3:∀p∈X.pn++af,p.1≠it):Inv X af U H { s with heap:=h',toks:=t' }:=by
 have RB:∀b u,H b=some u->b≠it:=λb u e z=>by rw[z,hn] at e;ext e
 refine I.step (g':=s.gens) (d':=s.drawn) (ch:=[it]) (λb hb=>?_) (λb o _ _ hc e _=>k b o (λz=>hc (by simp[z])) e) (λb o _ _ hc e _=>#[o.slots,k b o (λz=>hc (by simp[z])) e]) (λ_ _ _ _ n=>n)
  (λb o hc e=>#[o,k b o (λz=>hc (by simp[z])) e]) (λ_ _ e=>e) (λ_ _ _ e=>e) (λb ps e=>#[([].toArray),by rw[e];simp]) (λm hm=>?_) (λb u e=>?_) I.bare
 .have e:b=it:=by simpa using hb
  subst e;apply#[h1,hL,h2,h3]
 .let#[o,es,ep,ho,r]:=hm;apply#[o,es,ep,k _ o (agM hL) ho,r]
 .refine(I.aG b u e).gH (λc v hc q=>k c v ?_ q) (λ_ q=>q) λ_ _ q=>q
  rcases hc with z|z
  .rw[z];apply RB b u e
  .exact RB c _ z
def Inv.tok(I:Inv X af U H s)(t:Nat):Inv X af U H { s with toks:=t }:=I.un Un.refl I.aG
def Inv.kept(I:Inv X af U H s)(k:∀b u,s.heap.get? b=some u->h'.get? b=some u):Inv X af U H { s with heap:=h',toks:=t' }:=I.un (Un.kept k) (I.aG.kept k)
def Inv.laid(I:Inv X af U H s)(k:∀b u,s.heap.get? b=some u->h'.get? b=some u)(hp:s.heap.objs.size<=a)(new:dJ X.prog X.w (upd H a o) h' a o):
  Inv X af U (upd H a o) { s with heap:=h',toks:=t' }:=I.un (Un.laid k hp (I.aG.fresh hp)) (I.aG.laid k hp new)
def Inv.write(I:Inv X af U H s)(mu:xE (H x))(he:e=x\/H e=some (.own x))(k:∀b u,b≠e->s.heap.get? b=some u->h'.get? b=some u)(uX:∃u,h'.get? e=some u)
  (new:dJ X.prog X.w (upd H x o) h' x o):Inv X af U (upd H x o) { s with heap:=h',toks:=t' }:=I.un (Un.write mu he k uX) (I.aG.write mu he k uX new)
def Inv.rS(I:Inv X af U H s)(h:∀p∈wJ,s.heap.get? p.1=some p.2/\H p.1=none/\p.1≠X.env.locals/\p.1∉X.fs/\∀v,p.2.data≠.cell v):Inv X wJ U H s:=
 #[I.ok,I.os,I.bare,I.base,I.loc,I.cell,I.free,I.gU,λp hp=>(abC.mp hp).elim (λz=>I.pin p (aa4 _ z)) (h p),I.aG,I.len,I.hq]
def Kq{N:List Str}(hN:N.Nodup){i j:Nat}(a:N[i]? = some x)(b:N[j]? = some x):i=j:=by
 let#[h1,e1]:=ac0.mp a;let#[h2,e2]:=ac0.mp b;apply(List.getElem_inj hN).mp (e1.trans e2.symm)
def P0{M:Model}(I:Inv X af U H s)(hN:X.N.Nodup)(hi:X.N[i]? = some x)(hx:Loc X.env.scope x)(r:RelV v u)
  (h:∀s',Inv X af (U.set i (some v)) H s'->(∃a,Heap.SameBut a s.heap s'.heap/\(a=X.env.locals\/X.env.cells.lookup x=some a))->Q () s') (hf:X.fn x=true\/X.env.scope.names.lookup x=some .local:=by first|exact .inl rfl|exact .inr rfl|assumption):wpAny M A (storeName X.env x u) Q E s:=by
 let#[m,hn,hl]:=id I.loc;have wM:(X.env.scope.kind == .class||(X.env.scope.kind == .module&&X.env.locals != X.env.globals))=false:=by rw[I.ok.kind];rfl
 have Pn:i<U.length:=by rw[I.len];apply(ac0.mp hi).1
 have kc:=I.kc;have tracked:∀{a:Addr} {h'},(∃o,s.heap.get? a=some o/\H a=none)->Heap.SameBut a s.heap h'->c9 X.prog X.w H h':=λ{a h'} ha hs b ob e=>by
  let#[_,_,Nz]:=ha;refine(I.aG b ob e).gH (λc w' hc q=>(hs.2 c ?_).trans q) (λ_ q=>q) λ_ _ q=>q
  rintro rfl
  rcases hc with rfl|hc
  .rw[Nz] at e;ext e
  .rw[Nz] at hc;ext hc
 rcases hx with hk|hk
 .refine wpAny_storeName_local hk hn (λh' Ie hs=>?_) wM;let#[oL,_,_,A_,_]:=id hn;refine h _ #[I.ok,I.os,I.bare,#[λb o e n hb hx=>?_,λb o e n hb hx=>?_,I.base.free,λb o e hx=>?_,I.base.jw,I.base.jh,I.base.jU],#[_,Ie,λj y v' e1 e2 e3=>?_],λy c e=>?_,I.free,I.gU,λp hp=>?_,tracked #[oL,A_,I.free] hs,by simpa using I.len,I.hq] #[_,hs,.inl rfl]
  .exact(hs.2 b (acV (ac9 (abh e) I.ok.above))).trans (I.base.keep b o e n hb hx)
  .let#[sl,e1]:=I.base.slot b o e n hb hx;apply#[sl,(hs.2 b (acV (ac9 (abh e) I.ok.above))).trans e1]
  .let#[o',e1]:=I.base.there b o e hx;apply#[o',(hs.2 b (acV (ac9 (abh e) I.ok.above))).trans e1]
  .by_cases hj:j=i
   .subst hj;rw[hi] at e1;ext e1;rw[aeT Pn] at e2;ext e2;apply#[u,r,.inl #[hk,by simp]]
   .rw[ac8 (agM hj)] at e2;let#[u',r',q]:=hl j y v' e1 e2 e3;refine#[u',r',?_];rcases q with⟨k,e⟩|⟨k,c,e,z⟩
    .refine .inl #[k,?_];have:y≠x:=λe=>hj (Kq hN e1 (e ▸ hi))
     simp[this,e]
    .exact .inr #[k,c,e,z.sameBut hs (kc y c e)]
  .let#[w',z]:=I.cell y c e;apply#[w',z.sameBut hs (kc y c e)]
  .let#[e,n,ne,nf,d]:=I.pin p hp;apply#[(hs.2 p.1 ne).trans e,n,ne,nf,d]
 .have E3:X.fn x=true:=by
   rcases hf with z|z
   .exact z
   .rw[z] at hk;ext hk
  let#[c,hc]:=I.ok.has x (.inl hk);let#[w',z]:=I.cell x c hc;refine wpAny_storeName_cell I.ok.kind hk hc z (λh' uf hs=>?_);let#[oc,lC,XQ]:=id z;refine h { s with heap:=h' } #[I.ok,I.os,I.bare,#[λb o e n hb hx=>?_,λb o e n hb hx=>?_,I.base.free,λb o e hx=>?_,I.base.jw,I.base.jh,I.base.jU],#[m,hn.sameBut hs (agM (kc x c hc)),λj y v' e1 e2 e3=>?_],λy c' e=>?_,I.free,I.gU,λp hp=>?_,tracked #[oc,lC,I.gU x c hc] hs,by simpa using I.len,I.hq] #[c,hs,.inr hc]
  .exact(hs.2 b (acV (ac9 (abh e) (I.ok.pY x c E3 hc)))).trans (I.base.keep b o e n hb hx)
  .let#[sl,e1]:=I.base.slot b o e n hb hx;apply#[sl,(hs.2 b (acV (ac9 (abh e) (I.ok.pY x c E3 hc)))).trans e1]
  .let#[o',e1]:=I.base.there b o e hx;apply#[o',(hs.2 b (acV (ac9 (abh e) (I.ok.pY x c E3 hc)))).trans e1]
  .by_cases hj:j=i
   .subst hj;rw[hi] at e1;ext e1;rw[aeT Pn] at e2;ext e2;apply#[u,r,.inr #[.inl hk,c,hc,uf]]
   .rw[ac8 (agM hj)] at e2;let#[u',r',q]:=hl j y v' e1 e2 e3;refine#[u',r',?_];rcases q with q|⟨k,c',e,z'⟩
    .exact .inl q
    .refine .inr #[k,c',e,z'.sameBut hs ?_]
     rintro rfl
     apply hj (Kq hN e1 (I.ok.inj _ _ _ e hc ▸ hi))
  .by_cases Sq:c'=c
   .subst Sq;apply#[_,uf]
   .let#[w2,z2]:=I.cell y c' e;apply#[w2,z2.sameBut hs Sq]
  .let#[e,n,ne,nf,d]:=I.pin p hp;refine#[(hs.2 p.1 ?_).trans e,n,ne,nf,d];intro q;rw[q,lC] at e;have q':=ach e;apply d w' (by rw[<- q'];apply XQ)
def GW(I:Inv X af U H s)(hN:X.N.Nodup)(hi:X.N[i]? = some x)(hx:Loc X.env.scope x)(r:RelV v u)
  (h:∀s',Inv X af (U.set i (some v)) H s'->Q () s') (hf:X.fn x=true\/X.env.scope.names.lookup x=some .local:=by first|exact .inl rfl|exact .inr rfl|assumption):wpAny M A (storeName X.env x u) Q E s:=
 P0 I hN hi hx r (λs' I' _=>h s' I') hf
def Inv.TQ(I:Inv X af U H s)(ho:s'.os=s.os)(u:Un (aY X.stack) ch H H' s.heap s'.heap)(aG:c9 X.prog X.w H' s'.heap)(hg:AllBare s'.gens)
  (nh:∀b∈ch,(b∈X.ex\/X.cT.heap.objs.size<=b)/\b≠X.env.locals/\(∀x c,X.env.cells.lookup x=some c->c≠b)/\∀p∈X.pn++af,p.1≠b):Inv X af U H' s':=by
 let#[h',g',d',t',o']:=s';have e:=ho;subst e;apply I.call (g':=g') (d':=d') u aG hg nh
end
abbrev XK:=Value->Option Addr->Hp->Prop
abbrev St:=List (Option V)
abbrev VK:=V->Hp->Prop
abbrev TE:=St->Hp->VK->Prop
abbrev TT:=St->Hp->(Bool->Hp->Prop)->Prop
abbrev TA:=St->Hp->(List V->Hp->Prop)->Prop
structure Ends where
 nx:St->Hp->Prop
 rt:VK
 bk:St->Hp->Prop:=λ_ _=>False
 ct:St->Hp->Prop:=λ_ _=>False
abbrev TS:=Ends->St->Hp->Prop
def EP(X:Cx)(af:List (Addr×Obj))(U:St)(Q:VK)(u:Value)(s':Shared):Prop:=∃v H',Inv X af U H' s'/\RelV v u/\Q v H'
def TP(X:Cx)(af:List (Addr×Obj))(U:St)(Q:Bool->Hp->Prop)(b:Bool)(s':Shared):Prop:=∃H',Inv X af U H' s'/\Q b H'
def AP(X:Cx)(af:List (Addr×Obj))(U:St)(Q:List V->Hp->Prop)(us:List Value)(s':Shared):Prop:=∃vs H',Inv X af U H' s'/\aR vs us/\Q vs H'
def SP(X:Cx)(af:List (Addr×Obj))(D:Ends)(f:Flow)(s':Shared):Prop:=
 match f with
 |.next=>∃aB H',Inv X af aB H' s'/\D.nx aB H'
 |.brk=>∃aB H',Inv X af aB H' s'/\D.bk aB H'
 |.cont=>∃aB H',Inv X af aB H' s'/\D.ct aB H'
 |.ret u=>∃v aB H',Inv X af aB H' s'/\RelV v u/\D.rt v H'
def PE(X:Cx)(e:Expr)(t:TE):Prop:=
 ∀(af) (s) (U) (H) (Q),Inv X af U H s->t U H Q->wpAny (model X.prog X.w) X.A (eval e X.env) (EP X af U Q) X.xe s
def PT(X:Cx)(e:Expr)(t:TT):Prop:=
 ∀(af) (s) (U) (H) (Q),Inv X af U H s->t U H Q->wpAny (model X.prog X.w) X.A (isTrue e X.env (eval e X.env)) (TP X af U Q) X.xe s
def PW(X:Cx)(e:Expr)(t:TT):Prop:=
 ∀(whole) (af) (s) (U) (H) (Q),Inv X af U H s->t U H Q->wpAny (model X.prog X.w) X.A (isTrue e X.env whole) (TP X af U Q) X.xe s
def PW.pt(h:PW X e t):PT X e t:=h _
def PA(X:Cx)(es:List Expr)(t:TA):Prop:=
 ∀(pos) (af) (s) (U) (H) (Q),Inv X af U H s->t U H Q->wpAny (model X.prog X.w) X.A (spliced (backTo pos (starEach es X.env))) (AP X af U Q) X.xe s
def PS(X:Cx)(st:Stmt)(t:TS):Prop:=
 ∀(af) (s) (U) (H) (D),Inv X af U H s->t D U H->wpAny (model X.prog X.w) X.A (exec st X.env) (SP X af D) X.xe s
def iQ(X:Cx)(st:List Stmt)(t:TS):Prop:=
 ∀(af) (s) (U) (H) (D),Inv X af U H s->t D U H->wpAny (model X.prog X.w) X.A (execs st X.env) (SP X af D) X.xe s
def cQ(h:wpAny M A t Q E s)(hQ:∀a s,Q a s->Q' a s):wpAny M A t Q' E s:=aeo h hQ λ_ _ x=>x
def BU(h:wpAny M A t (EP X af U Q) E s)(k:∀v s1 x H1,Inv X af U H1 s1->RelV x v->Q x H1->Q' v s1):wpAny M A t Q' E s:=cQ h λv s1 #[x,H1,I,r,q]=>k v s1 x H1 I r q
def y9(h:wpAny M A t (AP X af U Q) E s)(k:∀v s1 x H1,Inv X af U H1 s1->aR x v->Q x H1->Q' v s1):wpAny M A t Q' E s:=cQ h λv s1 #[x,H1,I,r,q]=>k v s1 x H1 I r q
def GU(h:wpAny M A t (TP X af U Q) E s)(k:∀v s1 H1,Inv X af U H1 s1->Q v H1->Q' v s1):wpAny M A t Q' E s:=cQ h λv s1 #[H1,I,q]=>k v s1 H1 I q
def PE.n(a:PE X e t)(I:Inv X af U H s)(h:t U H Q)(k:∀v s1 x H1,Inv X af U H1 s1->RelV x v->Q x H1->Q' v s1):wpAny (model X.prog X.w) X.A (eval e X.env) Q' X.xe s:=BU (a af s U H Q I h) k
def PT.n(a:PT X e t)(I:Inv X af U H s)(h:t U H Q)(k:∀v s1 H1,Inv X af U H1 s1->Q v H1->Q' v s1):wpAny (model X.prog X.w) X.A (isTrue e X.env (eval e X.env)) Q' X.xe s:=GU (a af s U H Q I h) k
def PA.n(a:PA X e t)(I:Inv X af U H s)(h:t U H Q)(k:∀v s1 x H1,Inv X af U H1 s1->aR x v->Q x H1->Q' v s1):wpAny (model X.prog X.w) X.A (spliced (backTo pos (starEach e X.env))) Q' X.xe s:=y9 (a pos af s U H Q I h) k
section
def Ke(i:Nat):TE:=λU H Q=>∃v,U[i]? = some (some v)/\Q v H
def tC(v:V):TE:=λ_ H Q=>Q v H
def YG(hN:X.N[i]? = some x)(hv:HZ X.env.scope x)(hd:(x==("__debug__":Str))=false:=by decide)(iD:(x==("__classdict__":Str))=false:=by decide):PE X (.Name x pos) (Ke i):=by
 intro af s U H Q I h;let#[v,e,h]:=h;let#[m,hn,hl]:=I.loc;let#[u,r,l]:=hl i x v hN e hv;have fin:EP X af U Q u s:=#[v,H,I,r,h]
 rcases l with⟨hk,hm⟩|⟨hk,c,hc,OH⟩
 .exact wpAny_Name (wpAny_loadName_local I.ok.kind hk hn hm fin) hd
 .rcases hk with hk|hk
  .exact wpAny_Name (wpAny_loadName_cell I.ok.kind hk hc OH fin) hd
  .exact wpAny_Name (wpAny_loadName_free I.ok.kind hk hc OH fin iD) hd
def LA{i j pos}:PE X (.Constant (.int i) j pos) (tC (.int i)):=λ_ _ _ H _ I h=>wpAny_Constant_int #[.int i,H,I.tok _,#[_,rfl],h]
def Vc{b j pos}:PE X (.Constant (.bool b) j pos) (tC (.bl b)):=λ_ _ _ H _ I h=>Constant_bool #[.bl b,H,I,rfl,h]
def ae7{j pos}:PE X (.Constant .none j pos) (tC .aC):=λ_ _ _ H _ I h=>Constant_none #[.aC,H,I,rfl,h]
def Wd{x j pos}:PE X (.Constant (.str x) j pos) (tC (.str x)):=λ_ _ _ H _ I h=>Calls.Constant_str #[.str x,H,I.tok _,#[_,rfl],h]
def Gl(X:Cx)(x:Str):Prop:=X.env.kindOf x=some .globalImplicit
def qX(I:Inv X af U H s)(hg:Gl X x)(hm:X.mg x=some u)(h:Q u s)
  (hd:(x==("__debug__":Str))=false:=by decide):wpAny (model X.prog X.w) X.A (eval (.Name x pos) X.env) Q E s:=
 Calls.Name_function_global I.ok.kind hg (Calls.loadGlobal_global (by rw[I.ok.glob];apply I.mod.glob.keeps I.bk) hm h) hd
def pN(I:Inv X af U H s)(hg:Gl X x)(hm:X.mg x=none)(hv:bootBuiltins x=some u)(h:Q u s)
  (hn:x≠"__name__":=by decide) (hd:(x==("__debug__":Str))=false:=by decide):wpAny (model X.prog X.w) X.A (eval (.Name x pos) X.env) Q E s:=by
 let#[mb,h1,h2]:=I.mod.blt;apply Calls.Name_function_global I.ok.kind hg (Calls.loadGlobal_builtin (by rw[I.ok.glob];apply I.mod.glob.keeps I.bk) hm (by rw[I.ok.blt];apply h1.keeps I.bk) ((h2 x hn).trans hv) h) hd
def QI(hg:Gl X x)(hm:X.mg x=some u)(r:RelV v u)(hd:(x==("__debug__":Str))=false:=by decide):PE X (.Name x pos) (tC v):=
 λ_ _ _ H _ I h=>qX I hg hm #[v,H,I,r,h] hd
def z7(hg:Gl X x)(hm:X.mg x=none)(hv:bootBuiltins x=some u)(r:RelV v u)(hn:x≠"__name__":=by decide)(hd:(x==("__debug__":Str))=false:=by decide):PE X (.Name x pos) (tC v):=
 λ_ _ _ H _ I h=>pN I hg hm hv #[v,H,I,r,h] hn hd
def PC(X:Cx)(op:CmpOp)(a b:Expr)(t:TE):Prop:=
 ∀(af) (s) (U) (H) (Q),Inv X af U H s->t U H Q->
  wpAny (model X.prog X.w) X.A (eval a X.env) (λv bQ=>wpAny (model X.prog X.w) X.A (eval b X.env) (λu qR=>wpAny (model X.prog X.w) X.A (compareOp op v u) (EP X af U Q) X.xe qR) X.xe bQ) X.xe s
def tB(t:TE):TT:=λU H Q=>t U H λx H1=>∃c,x=.bl c/\Q c H1
def Ry(h:PC X op a b t)(h1:behindInMarks op b=false:=by first|exact UA _ (by decide) (by decide)|rfl):PE X (.Compare a [op] [b] pos) t:=λaf s U H Q I hw=>wpAny_Compare1 (h af s U H Q I hw) h1
def acu(h:PC X op a b t)(h1:behindInMarks op b=false:=by first|exact UA _ (by decide) (by decide)|rfl):PT X (.Compare a [op] [b] pos) (tB t):=by
 intro af s U H Q I hw;refine wpAny_isTrue_Compare1 (cQ (h af s U H _ I hw) λv s1 h1=>cQ h1 λu s2 h2=>cQ h2 λc s3 #[x,H1,I1,r1,q1]=>?_) h1;let#[d,rfl,q]:=q1;ext r1;apply agh #[H1,I1,q]
def RL(h:PE X e t)(he:∀whole,isTrue e X.env whole=(do let v <- whole;standAt e.pos;holding [v] (truthy v)):=by intro _;rfl):PT X e (tB t):=by
 intro af s U H Q I hw;refine isTrue_plain (h.n I hw λv s1 x H1 I1 r1 q1=>?_) (he _);let#[d,rfl,q]:=q1;ext r1;apply agh #[H1,I1,q]
variable{rest:List Expr}
def V2(t u:TT):TT:=λU H Q=>t U H λc H1=>if c=true then u U H1 Q else Q false H1
def tOr(t u:TT):TT:=λU H Q=>t U H λc H1=>if c=true then Q true H1 else u U H1 Q
def aaM(t:TT):TT:=λU H Q=>t U H λc H1=>Q (!c) H1
def Mp(ha:PT X a tA):PW X (.BoolOp .And [a] pos) tA:=by
 intro wh af s U H Q I h;refine isTrue_and (cQ (ha af s U H Q I h) λc s1 e=>?_);cases c with
 |true=>apply isTrue_and_nil e
 |false=>apply e
def agV(ha:PT X a tA):PW X (.BoolOp .Or [a] pos) tA:=by
 intro wh af s U H Q I h;refine isTrue_or (cQ (ha af s U H Q I h) λc s1 e=>?_);cases c with
 |false=>apply isTrue_or_nil e
 |true=>apply e
def S1(ha:PT X a tA)(hb:PW X (.BoolOp .And (b::rest) pos) G6):PW X (.BoolOp .And (a::b::rest) pos) (V2 tA G6):=by
 intro wh af s U H Q I h;refine isTrue_and (ha.n I h λc s1 H1 I1 q1=>?_);cases c with
 |true=>apply hb wh af s1 U H1 Q I1 q1
 |false=>apply#[H1,I1,q1]
def Vx(ha:PT X a tA)(hb:PW X (.BoolOp .Or (b::rest) pos) G6):PW X (.BoolOp .Or (a::b::rest) pos) (tOr tA G6):=by
 intro wh af s U H Q I h;refine isTrue_or (ha.n I h λc s1 H1 I1 q1=>?_);cases c with
 |true=>apply#[H1,I1,q1]
 |false=>apply hb wh af s1 U H1 Q I1 q1
def afN(ha:PT X a tA):PT X (.UnaryOp .Not a pos) (aaM tA):=by
 intro af s U H Q I h;apply isTrue_not (ha af s U H (λc H1=>Q (!c) H1) I h)
def acC(ta tb:TE):TE:=λU H Q=>ta U H λx H1=>∃c,x=.bl c/\if c=true then tb U H1 Q else Q (.bl false) H1
def VB(ta tb:TE):TE:=λU H Q=>ta U H λx H1=>∃c,x=.bl c/\if c=true then Q (.bl true) H1 else tb U H1 Q
def aa0(ta:TE):TE:=λU H Q=>ta U H λx H1=>∃c,x=.bl c/\Q (.bl (!c)) H1
def RJ{op}(h:PE X a t):PE X (.BoolOp op [a] pos) t:=λaf s U H Q I hw=>BoolOp_one (h af s U H Q I hw)
def ae2(ha:PE X a ta)(hb:PE X (.BoolOp .And (b::rest) pos) tb):PE X (.BoolOp .And (a::b::rest) pos) (acC ta tb):=by
 intro af s U H Q I h;refine BoolOp_and (ha.n I h λv s1 x H1 I1 r1 q1=>?_);let#[c,rfl,q1]:=q1;ext r1;refine agh ?_;cases c with
 |true=>apply hb af s1 U H1 Q I1 q1
 |false=>apply#[.bl false,H1,I1,rfl,q1]
def acz(ha:PE X a ta)(hb:PE X (.BoolOp .Or (b::rest) pos) tb):PE X (.BoolOp .Or (a::b::rest) pos) (VB ta tb):=by
 intro af s U H Q I h;refine BoolOp_or (ha.n I h λv s1 x H1 I1 r1 q1=>?_);let#[c,rfl,q1]:=q1;ext r1;refine agh ?_;cases c with
 |false=>apply hb af s1 U H1 Q I1 q1
 |true=>apply#[.bl true,H1,I1,rfl,q1]
def aeb(ha:PE X a ta):PE X (.UnaryOp .Not a pos) (aa0 ta):=by
 intro af s U H Q I h;refine UnaryOp_ (ha.n I h λv s1 x H1 I1 r1 q1=>?_);let#[c,rfl,q1]:=q1;ext r1;apply not_of (agh #[.bl (!c),H1,I1,rfl,q1])
def YI(t:TT)(ta tb:TE):TE:=λU H Q=>t U H λc H1=>if c=true then ta U H1 Q else tb U H1 Q
def aaW(hc:PT X c tA)(ha:PE X a ta)(hb:PE X b tb):PE X (.IfExp c a b pos) (YI tA ta tb):=by
 intro af s U H Q I h;refine wpAny_IfExp (hc.n I h λd s1 H1 I1 q1=>?_);cases d with
 |true=>apply ha af s1 U H1 Q I1 q1
 |false=>apply hb af s1 U H1 Q I1 q1
end
def bY(K:Fr)(H:Hp)(a:Addr)(xs:List V):Prop:=
 Rd H a (.lst xs)\/
  ∃(o:Obj) (ay:Array Value) (n:Nat),K.lookup a=some o/\o.cls=.type "list"/\o.dict=none/\o.data=.seq ay n/\ay.size<=sizeLine/\aR xs ay.toList
def cE(K:Fr)(H:Hp)(a:Addr)(xs:List V):Prop:=
 Rd H a (.tup xs)\/
  ∃(o:Obj) (ay:Array Value) (n:Nat),K.lookup a=some o/\o.cls=.type "tuple"/\o.dict=none/\o.data=.seq ay n/\ay.size<=sizeLine/\aR xs ay.toList
def acO:Value->Option V
 |.none=>some .aC
 |.bool b=>some (.bl b)
 |.int i _=>some (.int i)
 |.str x _=>some (.str x)
 |.bytes b _=>some (.j8 b)
 |.float b _=>some (.tS b)
 |.ref a=>some (.ref a)
 |.type n=>some (.ty n)
 |_=>none
def RelV.abs(r:RelV x u):acO u=some x:=by
 cases x with
 |aC=>ext r;rfl
 |bl _=>ext r;rfl
 |int _=>let#[t,rfl]:=r;rfl
 |str _=>let#[t,rfl]:=r;rfl
 |j8 _=>let#[t,rfl]:=r;rfl
 |tS _=>let#[t,rfl]:=r;rfl
 |ref _=>ext r;rfl
 |ty _=>ext r;rfl
def RelV.inj(r:RelV x u)(q:RelV y u):x=y:=ach (r.abs.symm.trans q.abs)
def aR.inj:∀{xs ys} {us},aR xs us->aR ys us->xs=ys
 |_,_,_,.nil,.nil=>rfl
 |_,_,_,.cons r t,.cons r' t'=>by rw[r.inj r',aR.inj t t']
def bY.of{K:Fr}(h:H a=some (.lst xs)):bY K H a xs:=.inl (.inl h)
def cE.of{K:Fr}(h:H a=some (.tup xs)):cE K H a xs:=.inl (.inl h)
def Inv.list(I:Inv X af U H s)(h:bY X.K H a xs):∃ay:List Value,aR xs ay/\PlainL s.heap a ay.toArray/\xs.length<=sizeLine:=by
 rcases h with h|⟨o,ay,n,hk,hc,hd,hs,hz,r⟩
 .let#[z,ay,n,r,e]:=h.ok I.aG;apply#[ay,r,#[_,n,e,rfl,rfl,rfl],z]
 .refine#[ay.toList,r,#[o,n,I.cU a o hk,hc,hd,by simpa using hs],?_];have e:=r.length;simp only[af8] at e;omega
def Inv.Qy(I:Inv X af U H s)(h:cE X.K H a xs):∃ay:List Value,aR xs ay/\kZ s.heap a ay.toArray/\xs.length<=sizeLine:=by
 rcases h with h|⟨o,ay,n,hk,hc,hd,hs,hz,r⟩
 .let#[z,ay,r,p]:=h.ok I.aG;apply#[ay,r,p,z]
 .refine#[ay.toList,r,#[o,I.cU a o hk,hc,hd,n,by simpa using hs],?_];have e:=r.length;simp only[af8] at e;omega
def Inv.tuple(I:Inv X af U H s)(h:cE X.K H a xs):∃ay:List Value,aR xs ay/\IsTup s.heap a ay.toArray/\xs.length<=sizeLine:=by
 rcases h with h|⟨o,ay,n,hk,hc,hd,hs,hz,r⟩
 .let#[z,ay,r,p]:=h.ok I.aG;apply#[ay,r,p.isTup,z]
 .refine#[ay.toList,r,#[o,I.cU a o hk,hc,n,by simpa using hs],?_];have e:=r.length;simp only[af8] at e;omega
def Inv.D9(I:Inv X af U H s)(h:bY X.K H a xs)(h':bY X.K H a ys):xs=ys:=by
 let#[ay,r,#[o,n,e,_,_,d],_]:=I.list h;let#[its',r',#[o',n',e',_,_,d'],_]:=I.list h';rw[e] at e';ext e';rw[d] at d';injection d' with d1 _;have:ay=its':=by simpa using congrArg Array.toList d1
 subst this;apply r.inj r'
def Inv.YM(I:Inv X af U H s)(h:cE X.K H a xs)(h':cE X.K H a ys):xs=ys:=by
 let#[ay,r,#[o,e,_,n,d],_]:=I.tuple h;let#[its',r',#[o',e',_,n',d'],_]:=I.tuple h';rw[e] at e';ext e';rw[d] at d';injection d' with d1 _;have:ay=its':=by simpa using congrArg Array.toList d1
 subst this;apply r.inj r'
abbrev Cx.k_(X:Cx)(E:Value->Shared->Prop):Cx:={ X with xe:=E }
abbrev Cx.i7(X:Cx):Cx:=X.k_ λ_ _=>False
def Cx.Ok.k_{X:Cx}(ok:X.Ok)(E:Value->Shared->Prop):(X.k_ E).Ok:=
 #[ok.mod,ok.kind,ok.glob,ok.blt,ok.above,ok.inj,ok.has,ok.pY,ok.hd,ok.frames,ok.qF,ok.tu,ok.bs,ok.jn,ok.pG,ok.o_,ok.jf,ok.lW]
def Cx.Ok.nX{X:Cx}(ok:(X.k_ E).Ok):X.Ok:=
 #[ok.mod,ok.kind,ok.glob,ok.blt,ok.above,ok.inj,ok.has,ok.pY,ok.hd,ok.frames,ok.qF,ok.tu,ok.bs,ok.jn,ok.pG,ok.o_,ok.jf,ok.lW]
def Inv.k_(I:Inv X af U H s)(E:Value->Shared->Prop):Inv (X.k_ E) af U H s:=#[I.ok.k_ E,I.os,I.bare,I.base,I.loc,I.cell,I.free,I.gU,I.pin,I.aG,I.len,I.hq]
def Inv.nX(I:Inv (X.k_ E) af U H s):Inv X af U H s:=#[I.ok.nX,I.os,I.bare,I.base,I.loc,I.cell,I.free,I.gU,I.pin,I.aG,I.len,I.hq]
def SP.nX(h:SP (X.k_ E) af D f s'):SP X af D f s':=by
 cases f with
 |next=>let#[aB,H',I,q]:=h;apply#[aB,H',I.nX,q]
 |brk=>let#[aB,H',I,q]:=h;apply#[aB,H',I.nX,q]
 |cont=>let#[aB,H',I,q]:=h;apply#[aB,H',I.nX,q]
 |ret u=>let#[v,aB,H',I,r,q]:=h;apply#[v,aB,H',I.nX,r,q]
def iQ.i7{st:List Stmt}(h:iQ X.i7 st t):iQ X st t:=λaf s U H D I hw=>
 aeo (h af s U H D (I.k_ _) hw) (λ_ _ q=>q.nX) λ_ _ z=>False.elim z
section
variable{st:Stmt}{rest:List Stmt}
def abf:TS:=λD U H=>D.nx U H
def aeJ(t u:TS):TS:=λD U H=>t { D with nx:=u D } U H
def P6:iQ X [] abf:=λ_ _ U H _ I h=>aiN #[U,H,I,h]
def zA(h1:PS X st t)(h2:iQ X rest u):iQ X (st::rest) (aeJ t u):=by
 intro af s U H D I h;refine wpAny_execs_cons (cQ (h1 af s U H { D with nx:=u D } I h) λf s1 q=>?_);cases f with
 |next=>
  let#[aB,H',I',q]:=q;apply h2 af s1 aB H' D I' q
 |ret v=>apply q
 |brk=>apply q
 |cont=>apply q
def TJ(h1:PS X st t):iQ X [st] t:=by
 intro af s U H D I h;refine wpAny_execs_cons (cQ (h1 af s U H D I h) λf s1 q=>?_);cases f with
 |next=>apply aiN q
 |ret v=>apply q
 |brk=>apply q
 |cont=>apply q
def Inv.quiet(I:Inv X af U H s):interactive X.env=false:=by simp[interactive,I.ok.kind]
def abY(te:TE):TS:=λD U H=>te U H λ_ H1=>D.nx U H1
def xB(he:PE X e te)(hs:swapsWith e none pos.line X.env=pure false:=by rfl):PS X (.Expr e pos) (abY te):=by
 intro af s U H D I h;apply wpAny_Expr_any (he.n I h λv s1 x H1 I1 r1 q1=>#[U,H1,I1,q1]) I.quiet hs
def UH(te:TE):TS:=λD U H=>te U H D.rt
def C8(he:PE X e te):PS X (.Return (some e) pos) (UH te):=by
 intro af s U H D I h;apply wpAny_Return_some (he.n I h λv s1 x H1 I1 r1 q1=>#[x,U,H1,I1,r1,q1])
def afZ(c:TT)(t u:TS):TS:=λD U H=>c U H λb H1=>if b=true then t D U H1 else u D U H1
def ID(hc:PT X c tc)(ha:iQ X a t)(hb:iQ X b u):PS X (.If c a b pos) (afZ tc t u):=by
 intro af s U H D I h;refine wpAny_If (hc.n I h λd s1 H1 I1 q1=>?_);cases d with
 |true=>apply ha af s1 U H1 D I1 q1
 |false=>apply hb af s1 U H1 D I1 q1
def aay:TS:=λ_ _ _=>False
def LZ:PS X st aay:=λ_ _ _ _ _ _ h=>h.elim
end
abbrev TG:=V->St->Hp->(St->Hp->Prop)->Prop
abbrev zP:=List V->St->Hp->(St->Hp->Prop)->Prop
def PG(X:Cx)(target:Expr)(t:TG):Prop:=
 ∀(af) (s) (U) (H) (v) (u) (Q),Inv X af U H s->RelV v u->t v U H Q->
  wpAny (model X.prog X.w) X.A (assign target X.env u) (λ_ s'=>∃aB H',Inv X af aB H' s'/\Q aB H') X.xe s
def ya(X:Cx)(ts:List Expr)(t:zP):Prop:=
 ∀(af) (s) (U) (H) (vs) (us) (Q),Inv X af U H s->aR vs us->t vs U H Q->
  wpAny (model X.prog X.w) X.A (assignInOrder ((assignEach ts X.env).map (·.2)) us) (λ_ s'=>∃aB H',Inv X af aB H' s'/\Q aB H') X.xe s
def Cn(i:Nat):TG:=λv U H Q=>Q (U.set i (some v)) H
def aeh(hN:X.N.Nodup)(hi:X.N[i]? = some x)(hx:Loc X.env.scope x)(hf:X.fn x=true\/X.env.scope.names.lookup x=some .local:=by first|exact .inl rfl|exact .inr rfl|assumption):PG X (.Name x pos) (Cn i):=by
 intro af s U H v u Q I r h;apply wpAny_assign_Name (GW I hN hi hx r (λs' I'=>#[_,H,I',h]) hf)
def WC:zP:=λvs U H Q=>vs=[]/\Q U H
def VP(t:TG)(u:zP):zP:=λvs U H Q=>∃v r,vs=v::r/\t v U H λaB H'=>u r aB H' Q
def acX:ya X [] WC:=by
 intro af s U H vs us Q I r h;let#[e,h]:=h;subst e;ext r;apply assignInOrder_nil #[U,H,I,h]
def adz(h1:PG X e t)(h2:ya X es u)
  (hs:(assignEach (e::es) X.env).map (·.2)=assign e X.env::(assignEach es X.env).map (·.2):=by rfl):ya X (e::es) (VP t u):=by
 intro af s U H vs us Q I r h;let#[v,vr,e1,h]:=h;subst e1;cases r with
 |cons r rr=>
  rw[hs];refine assignInOrder_cons (cQ (h1 af s U H _ _ _ I r h) ?_)
  rintro _ s1 ⟨nZ,H1,I1,q1⟩
  apply h2 af s1 nZ H1 _ _ Q I1 rr q1
def adZ(K:Fr)(n:Nat)(t:zP):TG:=λv U H Q=>∃a xs,v=.ref a/\cE K H a xs/\xs.length=n/\t xs U H Q
def ag0(hc:X.calm=true)(h:ya X es t)
  (hn:(assignEach es X.env).length=n:=by rfl) (eE:(assignEach es X.env).findIdx? (·.1)=none:=by rfl):PG X (.Tuple es k pos) (adZ X.K n t):=by
 intro af s U H v u Q I r hw;let#[a,xs,e1,hq,hl,hw]:=hw;subst e1;ext r;let#[ay,rv,ht,hz]:=I.tuple hq;refine assign_Tuple_tuple (I.ok.hd hc) ht (by simp[hn,<- hl,rv.length]) eE λh' hx=>?_
 have I1:=I.kept (t':=s.toks) λb o e=>hx b o (acV (abh e)) e
 apply h af _ U H xs _ Q I1 (by simpa using rv) hw
def Qs(te:TE)(g:TG):TS:=λD U H=>te U H λx H1=>g x U H1 D.nx
def BX(hN:X.N.Nodup)(hi:X.N[i]? = some x)(hx:Loc X.env.scope x)(he:PE X e te)(hs:swapsWith e (some (.Name x pos')) pos.line X.env=pure false:=by rfl)(hf:X.fn x=true\/X.env.scope.names.lookup x=some .local:=by first|exact .inl rfl|exact .inr rfl|assumption):
  PS X (.Assign [.Name x pos'] e pos) (Qs te (Cn i)):=by
 intro af s U H D I h;refine wpAny_Assign_Name (he.n I h λv s1 y H1 I1 r1 q1=>?_) hs;apply GW I1 hN hi hx r1 (λs2 I2=>#[_,H1,I2,q1]) hf
def Ze(c:TT)(tb:TS):TS:=λD U H=>∃W:Nat->St->Hp->Prop,(∃m,W m U H)/\∀m U H,W m U H->
 c U H λb H1=>if b=true then ∃N:St->Hp->Prop,(∀aB H',N aB H'->∃m',m'<m/\W m' aB H')/\tb { D with nx:=N,ct:=N,bk:=D.nx } U H1 else D.nx U H1
def Td(hp:PassesOwn (model X.prog X.w) X.A X.env X.xe)(hc:PT X c tc)(hb:iQ X body tb):PS X (.While c body [] pos) (Ze tc tb):=by
 intro af s U H D I h;let#[W,#[m0,w0],turn]:=h;refine wpAny_While (codeAny_whileLoop (λn s'=>∃aB H',Inv X af aB H' s'/\W n aB H') ?_ m0 #[U,H,I,w0])
 rintro n s1 ⟨nZ,H1,I1,w1⟩
 refine ail hp (GU (hc af s1 nZ H1 _ I1 (turn n nZ H1 w1)) λb s2 H2 I2 q2=>?_);cases b with
 |true=>
  let#[N,hN,q2]:=q2;rw[if_pos rfl];refine ail hp (cQ (hb af s2 nZ H2 _ I2 q2) λf s3 q3=>?_);cases f with
  |next=>
   let#[dz,H3,I3,n3]:=q3;let#[m',hm,w3]:=hN dz H3 n3;apply#[m',hm,dz,H3,I3,w3]
  |cont=>
   let#[dz,H3,I3,n3]:=q3;let#[m',hm,w3]:=hN dz H3 n3;apply#[m',hm,dz,H3,I3,w3]
  |brk=>apply q3
  |ret v=>apply q3
 |false=>
  rw[abo aa2];apply aiN #[nZ,H2,I2,q2]
structure It where
 go:Nat->Hp->Prop
 zG:Nat->Hp->V->Hp->Prop
 stop:Nat->Hp->Prop
 rg:Bool
def iZ(X:Cx)(af:List (Addr×Obj))(H:Hp)(b:Addr):Prop:=
 H b=none/\b≠X.env.locals/\b∉X.fs/\(b∈X.ex\/X.cT.heap.objs.size<=b)/\(∀x c,X.env.cells.lookup x=some c->c≠b)/\∀p∈X.pn++af,p.1≠b
def Inv.sD(I:Inv X af U H s)(hb:s.heap.objs.size<=b)(hn:H' b=none):iZ X af H' b:=by
 refine#[hn,ahU (ac9 I.lt hb),I.Ms hb,.inr (af0 I.sz hb),λx c e z=>?_,λp hp z=>?_]
 .let#[v,q]:=I.cell x c e;apply absurd (ac9 q.lt (by rw[z];apply hb)) (afO _)
 .exact absurd (ac9 (abh (I.pin p hp).1) (by rw[z];apply hb)) (afO _)
structure Turn(P:Program)(w:World)(K:Fr)(tg:Expr)(J:It)(fp:List Addr)(it:Addr)(tn:Nat->Heap->Prop):Prop where
 mem:it∈fp
 obj:∀i h,tn i h->∀b∈fp,∃o,h.get? b=some o/\∀v,o.data≠.cell v
 keep:∀i h h',tn i h->(∀b∈fp,∀o,h.get? b=some o->h'.get? b=some o)->tn i h'
 item:∀(X),X.prog=P->X.w=w->X.K=K->(X.calm=true\/J.rg=true)->∀(i) (af) (s) (U) (H) (E),Inv X af U H s->(∀b∈fp,iZ X af H b)->tn i s.heap->J.go i H->
  wpAny (model P w) X.A (pyNext (.ref it)) (λr s1=>∃u,r=some u/\
   wpAny (model P w) X.A (letOwnedTupleGo tg (.ref it) u) (λ_ s2=>∃x H',Inv X af U H' s2/\RelV x u/\J.zG i H x H'/\tn (i+1) s2.heap/\∀b∈fp,H' b=none) E s1) E s
 done:∀(X),X.prog=P->X.w=w->X.K=K->(X.calm=true\/J.rg=true)->∀(i) (af) (s) (U) (H) (E),Inv X af U H s->(∀b∈fp,iZ X af H b)->tn i s.heap->J.stop i H->
  wpAny (model P w) X.A (pyNext (.ref it)) (λr s1=>r=none/\Inv X af U H s1) E s
 self:∀(A) (i) (s) (Q) (E),tn i s.heap->Q (.ref it) s->wpAny (model P w) A (pyIter (.ref it)) Q E s
abbrev TI:=St->Hp->(It->Hp->Prop)->Prop
def Ny(X:Cx)(af:List (Addr×Obj))(U:St)(tg:Expr)(R:It->Hp->Prop)(Cc:Value)(s2:Shared):Prop:=
 ∃(it:Addr) (fp:List Addr) (tn:Nat->Heap->Prop) (J:It) (H':Hp),Cc=.ref it/\Inv X af U H' s2/\Turn X.prog X.w X.K tg J fp it tn/\tn 0 s2.heap/\(∀b∈fp,iZ X af H' b)/\R J H'
def PI(X:Cx)(tg iter:Expr)(wi:TI):Prop:=
 ∀(af) (s) (U) (H) (R),Inv X af U H s->wi U H R->
  wpAny (model X.prog X.w) X.A (eval iter X.env) (λv s1=>wpAny (model X.prog X.w) X.A (pyIter v) (Ny X af U tg R) X.xe s1) X.xe s
def Ky(ho:s.heap.get? it=some o)(hc:o.cls=.type n)(hd:o.data=.fields vs)
    (hn:["enumerate","zip","dict_itemiterator","dict_reverseitemiterator","odict_iterator","itertools.zip_longest","itertools.pairwise"].contains n=false) (hQ:Q () s):wpAny M A (letOwnedTupleGo tg (.ref it) u) Q E s:=by
  unfold letOwnedTupleGo;ext tg<;>first
    |exact acp hQ
    | (cases u <;> first
        |exact acp hQ
        | (refine aaN (wpAny_load ho ?_)
           rw[hc,hd];show wpAny M A (if(["enumerate","zip","dict_itemiterator","dict_reverseitemiterator","odict_iterator","itertools.zip_longest","itertools.pairwise"].contains n&&vs[0]?==some (rawInt _))=true then _ else _) Q E s;rw[abo (by intro h;rw[hn,Bool.false_and] at h;ext h)];apply acp hQ))
def Ak(K:Fr)(a:Addr):It:=
 #[λi H=>∃xs x,bY K H a xs/\xs[i]? = some x,λi H x H'=>H'=H/\∀xs,bY K H a xs->xs[i]? = some x,λi H=>∃xs,bY K H a xs/\xs.length<=i,false]
def KA(K:Fr)(a:Addr):It:=
 #[λi H=>∃xs x,cE K H a xs/\xs[i]? = some x,λi H x H'=>H'=H/\∀xs,cE K H a xs->xs[i]? = some x,λi H=>∃xs,cE K H a xs/\xs.length<=i,false]
def zw(lo:Int)(n:Nat):It:=#[λi _=>i<n,λi H x H'=>H'=H/\x=.int (lo+i),λi _=>n<=i,true]
def adN{K:Fr}(a it:Addr):Turn P w K tg (Ak K a) [it] it (λi h=>h.IsListIter it a i) where
 mem:=by simp
 obj:=λi h st b hb=>by
  have e:b=it:=by simpa using hb
  subst e;let#[o,e,c,d]:=st;apply#[o,e,λv z=>by rw[d] at z;ext z]
 keep:=λi h h' st k=>st.at λo e=>k it (by simp) o e
 item:=by
  intro X hP hw hK hc i af s U H E I hf st hg;subst hP hw hK;let#[xs,x,hq,hx]:=hg;let#[ay,rv,p,hz]:=I.list hq;let#[u,hu,ru]:=rv.get hx;let#[f0,f1,f2,f3,f4,f5]:=hf it (by simp);refine wpAny_pyNext_list_item st p.isList (by simpa using hu) λh' n9 sb=>?_
  have I1:=I.turned (t':=s.toks) (λb o hb e=>(sb.2 b hb).trans e) f0 f1 f3 f4 f5;let#[o,e,c,d]:=id n9;apply#[u,rfl,Ky e c d (by decide) #[x,H,I1,ru,#[rfl,λys hy=>by rw[I.D9 hy hq];apply hx],n9,λb hb=>(hf b hb).1]]
 done:=by
  intro X hP hw hK hc i af s U H E I hf st hg;subst hP hw hK;let#[xs,hq,hx]:=hg;let#[ay,rv,p,hz]:=I.list hq;let#[f0,f1,f2,f3,f4,f5]:=hf it (by simp);have hl:=rv.length;apply wpAny_pyNext_list_end (I.ok.hd (hc.resolve_right λz=>aa2 z)) st p.isList (by simp;omega) λh' eb=>#[rfl,I.turned (λb o hb e=>eb b o hb e) f0 f1 f3 f4 f5]
 self:=λ_ _ _ _ _ st h=>wpAny_pyIter_listiter st h
def Zq{K:Fr}(a it:Addr):Turn P w K tg (KA K a) [it] it (λi h=>h.IsTupleIter it a i) where
 mem:=by simp
 obj:=λi h st b hb=>by
  have e:b=it:=by simpa using hb
  subst e;let#[o,e,c,d]:=st;apply#[o,e,λv z=>by rw[d] at z;ext z]
 keep:=λi h h' st k=>st.at λo e=>k it (by simp) o e
 item:=by
  intro X hP hw hK hc i af s U H E I hf st hg;subst hP hw hK;let#[xs,x,hq,hx]:=hg;let#[ay,rv,p,hz]:=I.tuple hq;let#[u,hu,ru]:=rv.get hx;let#[f0,f1,f2,f3,f4,f5]:=hf it (by simp);refine wpAny_pyNext_tuple_item st (show s.heap.IsTuple a ay.toArray from p) (by simpa using hu) λh' n9 sb=>?_
  have I1:=I.turned (t':=s.toks) (λb o hb e=>(sb.2 b hb).trans e) f0 f1 f3 f4 f5;let#[o,e,c,d]:=id n9;apply#[u,rfl,Ky e c d (by decide) #[x,H,I1,ru,#[rfl,λys hy=>by rw[I.YM hy hq];apply hx],n9,λb hb=>(hf b hb).1]]
 done:=by
  intro X hP hw hK hc i af s U H E I hf st hg;subst hP hw hK;let#[xs,hq,hx]:=hg;let#[ay,rv,p,hz]:=I.tuple hq;let#[f0,f1,f2,f3,f4,f5]:=hf it (by simp);have hl:=rv.length;apply wpAny_pyNext_tuple_end (I.ok.hd (hc.resolve_right λz=>aa2 z)) st (show s.heap.IsTuple a ay.toArray from p) (by simp;omega) λh' eb=>#[rfl,I.turned (λb o hb e=>eb b o hb e) f0 f1 f3 f4 f5]
 self:=λ_ _ _ _ _ st h=>wpAny_pyIter_tupleiter st h
def abl{K:Fr}(it:Addr)(lo:Int)(n:Nat):Turn P w K tg (zw lo n) [it] it (λi h=>IsRangeIter h it (lo+(i:Nat)*1) ((n:Int)-(i:Nat)) 1) where
 mem:=by simp
 obj:=λi h st b hb=>by
  have e:b=it:=by simpa using hb
  subst e;apply#[_,st,λv z=>by
   have z':=z;ext z']
 keep:=λi h h' st k=>k it (by simp) _ st
 item:=by
  intro X hP hw hK hc i af s U H E I hf st hg;subst hP hw hK;let#[f0,f1,f2,f3,f4,f5]:=hf it (by simp);refine wpAny_pyNext_range_item st (by have:i<n:=hg;omega) λh' n9 sb=>?_
  have I1:Inv X af U H { s with heap:=h',toks:=s.toks+1 }:=I.turned (λb o hb e=>(sb.2 b hb).trans e) f0 f1 f3 f4 f5;have e1:lo+((i+1:Nat):Int)*1=lo+(i:Int)*1+1:=by omega
  have e2:(n:Int)-((i+1:Nat):Int)=(n:Int)-(i:Int)-1:=by omega
  refine#[_,rfl,Ky n9 rfl rfl (by decide) #[.int (lo+i),H,I1,#[s.toks,?_],#[rfl,rfl],by rw[e1,e2];apply n9,λb hb=>(hf b hb).1]];rw[Int.mul_one]
 done:=by
  intro X hP hw hK hc i af s U H E I hf st hg;subst hP hw hK;let#[f0,f1,f2,f3,f4,f5]:=hf it (by simp);rcases I.hq.hd with h0|⟨a',ob,u,vs,h0,h1,h2,h3⟩
  .exact wpAny_pyNext_range_end h0 st (by have:n<=i:=hg;omega) λh' eb=>#[rfl,I.turned (λb o hb e=>eb b o hb e) f0 f1 f3 f4 f5]
  .exact aee h0 (I.aG a' _ h1).1 h2 h3 st (by have:n<=i:=hg;omega) λh' eb=>#[rfl,I.turned (λb o hb e=>eb b o hb e) f0 f1 f3 f4 f5]
 self:=λ_ _ _ _ _ st h=>wpAny_pyIter_rangeiter st h
def Lr{lo hi:Int}{tk:Nat}(I:Inv X af U H s)(h1:-(2 ^ 62)<=lo)(h2:lo<2 ^ 62)(h3:-(2 ^ 62)<=hi)(h4:hi<2 ^ 62)
  (q:R (zw lo (hi-lo).toNat) H):wpAny (model X.prog X.w) X.A (pyIter (.ref s.heap.objs.size)) (Ny X af U tg R) E { s with heap:=s.heap.push { cls:=.type "range",data:=.fields ([.int lo t,.int hi u,.int 1 v].toArray) },toks:=tk }:=by
 refine wpAny_pyIter_range (IsRange.new ..) (small_one h1 h2 h3 h4) ?_;have I1:Inv X af U H { s with heap:=s.heap.push { cls:=.type "range",data:=.fields ([.int lo t,.int hi u,.int 1 v].toArray) },toks:=tk }:=I.kept λb o e=>aaA _ e
 refine#[(s.heap.push { cls:=.type "range",data:=.fields ([.int lo t,.int hi u,.int 1 v].toArray) }).objs.size,[(s.heap.push { cls:=.type "range",data:=.fields ([.int lo t,.int hi u,.int 1 v].toArray) }).objs.size],_,_,H,rfl,
  I1.kept λb o e=>aaA _ e,abl _ lo (hi-lo).toNat,?_,λb hb=>?_,q]
 .have e1:lo+((0:Nat):Int)*1=lo:=by simp
  have e2:(((hi-lo).toNat:Nat):Int)-((0:Nat):Int)=Builtin.Range.rangeSize lo hi 1:=by rw[rangeSize_one];split<;>omega
  rw[e1,e2];apply ab4 _ rfl
 .have e:b=(s.heap.push { cls:=.type "range",data:=.fields ([.int lo t,.int hi u,.int 1 v].toArray) }).objs.size:=by simpa using hb
  subst e;apply I1.sD (abD _) (I1.aG.fresh (abD _))
def adi(ta:TA):TI:=λU H R=>ta U H λvs H1=>∃j:Int,vs=[.int j]/\-(2 ^ 62)<=j/\j<2 ^ 62/\R (zw 0 j.toNat) H1
def VQ(ta:TA):TI:=λU H R=>ta U H λvs H1=>∃i j:Int,vs=[.int i,.int j]/\(-(2 ^ 62)<=i/\i<2 ^ 62/\-(2 ^ 62)<=j/\j<2 ^ 62)/\R (zw i (j-i).toNat) H1
def af2{ta:TA}(hg:Gl X "range")(hm:X.mg "range"=none)(ha:PA X [a] ta)(hs:starEach [a] X.env=[(false,eval a X.env)]:=by rfl):PI X tg (.Call (.Name "range" p) [a] [] pos) (adi ta):=by
 intro af s U H R I h;refine Call_ (pN I hg hm boot_range (agP (ha.n I h λus s1 vs H1 I1 r1 q1=>?_) hs rfl));let#[j,e,q1,q2,q]:=q1;subst e;cases r1 with
 |cons r rr=>
  ext rr;let#[t,rfl]:=r;apply call_range_1 (Lr I1 (by omega) (by omega) q1 q2 (by simpa using q))
def agC(hg:Gl X "range")(hm:X.mg "range"=none)(ha:PA X [a,b] ta)(hs:starEach [a,b] X.env=[(false,eval a X.env),(false,eval b X.env)]:=by rfl)(ck:starEach [b] X.env=[(false,eval b X.env)]:=by rfl):
  PI X tg (.Call (.Name "range" p) [a,b] [] pos) (VQ ta):=by
 intro af s U H R I h;refine Call_ (pN I hg hm boot_range (agP (ha.n I h λus s1 vs H1 I1 r1 q1=>?_) (by rw[hs,ck]) (by rw[ck];rfl)));let#[i,j,e,#[q1,q2,q3,q4],q]:=q1;subst e;cases r1 with
 |cons r rr=>
  cases rr with
  |cons r' rr=>
   ext rr;let#[t,rfl]:=r;let#[t',rfl]:=r';apply call_range_2 (Lr I1 q1 q2 q3 q4 q)
def UN(wi:TI)(g:TG)(tb:TS):TS:=λD U H=>wi U H λJ H1=>∃W:Nat->Nat->St->Hp->Prop,(∃m,W 0 m U H1)/\∀i m U H,W i m U H->
 (J.stop i H/\D.nx U H)\/(J.go i H/\∃N:St->Hp->Prop,(∀aB H',N aB H'->∃m',m'<m/\W (i+1) m' aB H')/\∀x H',J.zG i H x H'->g x U H' λiN H2=>tb { D with nx:=N,ct:=N,bk:=D.nx } iN H2)
def xF(fp:List Addr)(h:Heap):List (Addr×Obj):=fp.filterMap λb=>(h.get? b).map λo=>(b,o)
def BG(hb:b∈fp)(e:h.get? b=some o):(b,o)∈xF fp h:=aif.mpr #[b,hb,by rw[e];rfl]
def abR(hp:p∈xF fp h):p.1∈fp/\h.get? p.1=some p.2:=by
 let#[b,hb,e]:=aif.mp hp;exists q,h.get? b,o,e;have e':=ach e;subst e';apply#[hb,q]
def Inv.pinned(I:Inv X af U H s)(hf:∀b∈fp,iZ X af H b)(ho:∀b∈fp,∃o,s.heap.get? b=some o/\∀v,o.data≠.cell v):Inv X (af++xF fp s.heap) U H s:=
 I.rS λp hp=>(abC.mp hp).elim (λz=>I.pin p (aaS _ z)) λz=>by
  let#[hb,e]:=abR z;let#[f0,f1,f2,_]:=hf p.1 hb;let#[o,e',d]:=ho p.1 hb;rw[e] at e';ext e';apply#[e,f0,f1,f2,d]
def Inv.zX(I:Inv X (af++pl) U H s):Inv X af U H s:=I.rS λp hp=>I.pin p (aaS _ (aa4 _ hp))
def afm(hp:PassesOwn (model X.prog X.w) X.A X.env X.xe)(hc:X.calm=true)(hi:PI X tg iter wi)(hg:PG X tg g)(hb:iQ X body tb)
  (hs:∀x,foldedSetIterable iter X.env x=pure x:=by intro _;rfl):PS X (.For tg iter body [] pos) (UN wi g tb):=by
 intro af s U H D I h;refine wpAny_For (cQ (hi af s U H _ I h) λv s1 h1=>cQ h1 λCc s2 h2=>?_) hs;let#[it,fp,tn,J,H2,e,I2,T,rR,f2,W,#[m0,w0],turn]:=h2;subst e;have uo:∀{H':Hp},(∀b∈fp,H' b=none)->∀b∈fp,iZ X af H' b:=λhn b hb=>#[hn b hb,(f2 b hb).2]
 refine codeAny_forLoop_any (λn s'=>∃i aB H',Inv X af aB H' s'/\tn i s'.heap/\(∀b∈fp,H' b=none)/\W i n aB H') ?_ m0 #[0,U,H2,I2,rR,λb hb=>(f2 b hb).1,w0]
 rintro n s3 ⟨i,dz,H3,I3,Mu,Sb,w3⟩
 rcases turn i n dz H3 w3 with⟨stop,qn⟩|⟨go,N,hN,step⟩
 .refine ail hp (cQ (T.done X rfl rfl rfl (.inl hc) i af s3 dz H3 X.xe I3 (uo Sb) Mu stop) ?_)
  rintro r s4 ⟨hr,I4⟩
  subst hr;apply aiN #[dz,H3,I4,qn]
 .refine ail hp (cQ (T.item X rfl rfl rfl (.inl hc) i af s3 dz H3 X.xe I3 (uo Sb) Mu go) ?_)
  rintro r s4 ⟨u,hr,h4⟩
  subst hr;refine ail hp (cQ h4 ?_)
  rintro _ s5 ⟨x,H5,I5,r5,y5,wC,l5⟩
  have I5':=I5.pinned (uo l5) (T.obj _ _ wC);refine ail hp (cQ (hg _ s5 dz H5 x u _ I5' r5 (step x H5 y5)) ?_)
  rintro _ s6 ⟨jo,H6,I6,q6⟩
  refine ail hp (cQ (hb _ s6 jo H6 _ I6 q6) λf s7 q7=>?_);have again:∀{l8:St}{H7:Hp},Inv X (af++xF fp s5.heap) l8 H7 s7->N l8 H7->∃m,m<n/\∃i aB H',Inv X af aB H' s7/\tn i s7.heap/\(∀b∈fp,H' b=none)/\W i m aB H':=λ{l8 H7} I7 n7=>by
   let#[m',hm,w7]:=hN l8 H7 n7;refine#[m',hm,i+1,l8,H7,I7.zX,T.keep _ _ _ wC λb hb o e=>(I7.pin (b,o) (aaS _ (aaS _ (BG hb e)))).1,λb hb=>?_,w7];let#[o,e,d]:=T.obj _ _ wC b hb;apply(I7.pin (b,o) (aaS _ (aaS _ (BG hb e)))).2.1
  cases f with
  |next=>let#[l8,H7,I7,n7]:=q7;apply again I7 n7
  |cont=>let#[l8,H7,I7,n7]:=q7;apply again I7 n7
  |brk=>let#[l8,H7,I7,q7]:=q7;apply#[l8,H7,I7.zX,q7]
  |ret v=>let#[x7,l8,H7,I7,r7,q7]:=q7;apply#[x7,l8,H7,I7.zX,r7,q7]
abbrev R2:=V->V->Hp->VK->Prop
def dF(X:Cx)(f:Value->Value->Sem Value)(r:R2):Prop:=
 ∀(af:List (Addr×Obj)) (s:Shared) (U:St) (H:Hp) (x y:V) (v u:Value) (Q:VK),Inv X af U H s->RelV x v->RelV y u->r x y H Q->
  wpAny (model X.prog X.w) X.A (f v u) (EP X af U Q) X.xe s
def I_(X:Cx)(f:Value->Sem Value)(r:V->Hp->VK->Prop):Prop:=
 ∀(af:List (Addr×Obj)) (s:Shared) (U:St) (H:Hp) (x:V) (v:Value) (Q:VK),Inv X af U H s->RelV x v->r x H Q->
  wpAny (model X.prog X.w) X.A (f v) (EP X af U Q) X.xe s
def gI(X:Cx)(f:Value)(r:List V->Hp->VK->Prop):Prop:=
 ∀(af:List (Addr×Obj)) (s:Shared) (U:St) (H:Hp) (xs:List V) (us:List Value) (Q:VK),Inv X af U H s->aR xs us->r xs H Q->
  wpAny (model X.prog X.w) X.A (call f us) (EP X af U Q) X.xe s
def afj(X:Cx)(r:V->Hp->(Bool->Hp->Prop)->Prop):Prop:=
 ∀(af:List (Addr×Obj)) (s:Shared) (U:St) (H:Hp) (x:V) (v:Value) (Q:Bool->Hp->Prop),Inv X af U H s->RelV x v->r x H Q->
  wpAny (model X.prog X.w) X.A (truthy v) (TP X af U Q) X.xe s
def vB(r:R2)(ta tb:TE):TE:=λU H Q=>ta U H λx H1=>tb U H1 λy H2=>r x y H2 Q
def tUn(r:V->Hp->VK->Prop)(ta:TE):TE:=λU H Q=>ta U H λx H1=>r x H1 Q
def rI(C:Int->Int->Prop)(g:Int->Int->V):R2:=λx y H Q=>∃i j,x=.int i/\y=.int j/\C i j/\Q (g i j) H
def nF(g:Int->Int->V):R2:=λx y H Q=>∃i j,x=.int i/\y=.int j/\Q (g i j) H
def rU(g:Int->V):V->Hp->VK->Prop:=λx H Q=>∃i,x=.int i/\Q (g i) H
def D7(ha:PE X a ta)(hb:PE X b tb){R:V->V->Hp->Prop}(I:Inv X af U H s)
  (h:ta U H λx H1=>tb U H1 λy H2=>R x y H2) {f:Value->Value->Sem Value}
  (hf:∀v u s2 x y H2,Inv X af U H2 s2->RelV x v->RelV y u->R x y H2->wpAny (model X.prog X.w) X.A (f v u) Q X.xe s2) :
  wpAny (model X.prog X.w) X.A (eval a X.env) (λv bQ=>wpAny (model X.prog X.w) X.A (eval b X.env) (λu qR=>wpAny (model X.prog X.w) X.A (f v u) Q X.xe qR) X.xe bQ) X.xe s:=by
 refine ha.n I h λv s1 x H1 I1 r1 q1=>?_
 refine hb.n I1 q1 λu s2 y H2 I2 r2 q2=>?_
 apply hf v u s2 x y H2 I2 r1 r2 q2
def R5{r:R2}(ho:dF X (binaryOp op) r)(ha:PE X a ta)(hb:PE X b tb):PE X (.BinOp a op b pos) (vB r ta tb):=by
 intro af s U H Q I h;apply wpAny_BinOp (D7 ha hb I h λv u s2 x y H2 I2 rx ry q=>ho af s2 U H2 x y v u Q I2 rx ry q)
def afE(ho:I_ X (unaryOp op) r)(ha:PE X a ta):PE X (.UnaryOp op a pos) (tUn r ta):=by
 intro af s U H Q I h;apply UnaryOp_ (ha.n I h λv s1 x H1 I1 r1 q1=>ho af s1 U H1 x v Q I1 r1 q1)
def A3{g:Int->Int->Int}
  (rule:∀(i j:Int) (t u:Tok) (s:Shared) (Q:Value->Shared->Prop) (E:Value->Shared->Prop),C i j->Q (.int (g i j) s.toks) { s with toks:=s.toks+1 }->wpAny (model X.prog X.w) X.A (f (.int i t) (.int j u)) Q E s) :
  dF X f (rI C λi j=>.int (g i j)):=by
 intro af s U H x y v u Q I rx ry h;let#[i,j,rfl,rfl,hc,q]:=h;let#[t,rfl]:=rx;let#[t',rfl]:=ry;apply rule i j t t' s _ _ hc #[.int (g i j),H,I.tok _,#[_,rfl],q]
def Ri{g:Int->Int->Int}
  (rule:∀(i j:Int) (t u:Tok) (s:Shared) (Q:Value->Shared->Prop) (E:Value->Shared->Prop),Q (.int (g i j) s.toks) { s with toks:=s.toks+1 }->wpAny (model X.prog X.w) X.A (f (.int i t) (.int j u)) Q E s) :
  dF X f (nF λi j=>.int (g i j)):=by
 intro af s U H x y v u Q I rx ry h;let#[i,j,rfl,rfl,q]:=h;let#[t,rfl]:=rx;let#[t',rfl]:=ry;apply rule i j t t' s _ _ #[.int (g i j),H,I.tok _,#[_,rfl],q]
def CB{g:Int->Int->Bool}
  (rule:∀(i j:Int) (t u:Tok) (s:Shared) (Q:Value->Shared->Prop) (E:Value->Shared->Prop),Q (.bool (g i j)) s->wpAny (model X.prog X.w) X.A (f (.int i t) (.int j u)) Q E s) :
  dF X f (nF λi j=>.bl (g i j)):=by
 intro af s U H x y v u Q I rx ry h;let#[i,j,rfl,rfl,q]:=h;let#[t,rfl]:=rx;let#[t',rfl]:=ry;apply rule i j t t' s _ _ #[.bl (g i j),H,I,rfl,q]
def ahk(i j:Int):Prop:=0<j/\j<1073741824
def ahi(i j:Int):Prop:=0<=j/\j<=1000000/\i.natAbs<2 ^ 64
def yN(i j:Int):Prop:=(-(2 ^ 64)<i/\i<2 ^ 64)\/(-(2 ^ 64)<j/\j<2 ^ 64)
def yN.ok(h:yN i j):IntMulOk i j:=by
 rcases h with⟨h1,h2⟩|⟨h1,h2⟩
 .exact .of_left (intBits_le_64 h1 h2)
 .exact .of_right (intBits_le_64 h1 h2)
def afu:dF X (binaryOp .Add) (nF λi j=>.int (i+j)):=Ri λ_ _ _ _ _ _ _ q=>add_int q
def WA:dF X (binaryOp .Sub) (nF λi j=>.int (i-j)):=Ri λ_ _ _ _ _ _ _ q=>sub_int q
def acE:dF X (binaryOp .Mult) (rI yN λi j=>.int (i*j)):=A3 λ_ _ _ _ _ _ _ hc q=>mul_int q hc.ok
def ZR:dF X (binaryOp .FloorDiv) (rI ahk λi j=>.int (i / j)):=A3 λi j _ _ _ _ _ hc q=>by
 have h1:=hc.1;have h2:j<1073741824:=hc.2;apply floordiv_int (by omega) (by rw[Int.fdiv_eq_ediv_of_nonneg i (by omega)];apply q) (.inl (PyProof.noPylong_small (by omega)))
def agD:dF X (binaryOp .Mod) (rI (λ_ j=>0<j) λi j=>.int (i % j)):=A3 λi j _ _ _ _ _ hc q=>by
 have h1:=hc;apply mod_int' (by omega) (by rw[Int.fmod_eq_emod_of_nonneg i (by omega)];apply q)
def ahh:dF X (binaryOp .Pow) (rI ahi λi j=>.int (i ^ j.toNat)):=A3 λ_ _ _ _ _ _ _ hc q=>pow_int_small hc.1 hc.2.1 hc.2.2 q
def WK{g:Int->Int}
  (rule:∀(i:Int) (t:Tok) (s:Shared) (Q:Value->Shared->Prop) (E:Value->Shared->Prop),Q (.int (g i) s.toks) { s with toks:=s.toks+1 }->wpAny (model X.prog X.w) X.A (f (.int i t)) Q E s) :
  I_ X f (rU λi=>.int (g i)):=by
 intro af s U H x v Q I rx h;let#[i,rfl,q]:=h;let#[t,rfl]:=rx;apply rule i t s _ _ #[.int (g i),H,I.tok _,#[_,rfl],q]
def agf:I_ X (unaryOp .USub) (rU λi=>.int (-i)):=WK λ_ _ _ _ _ q=>neg_int q
def O_:V->V->Bool
 |.aC,.aC=>true|.aC,.int _=>true|.int _,.aC=>true|.aC,.bl _=>true|.bl _,.aC=>true|.aC,.str _=>true|.str _,.aC=>true
 |.int _,.int _=>true|.bl _,.bl _=>true|.str _,.str _=>true|.j8 _,.j8 _=>true
 |.int _,.str _=>true|.str _,.int _=>true|.bl _,.str _=>true|.str _,.bl _=>true
 |_,_=>false
def MP:R2:=λx y H Q=>O_ x y=true/\Q (.bl (decide (x=y))) H
def NN:R2:=λx y H Q=>O_ x y=true/\Q (.bl (!decide (x=y))) H
def Ax:decide (V.int i=V.int j)=(i==j):=by
 rw[aiO];simp
def Ds:decide (V.bl i=V.bl j)=(i==j):=by
 rw[aiO];simp
def B8:decide (V.str i=V.str j)=(i==j):=by
 rw[aiO];simp
def Oq:decide (V.j8 i=V.j8 j)=(i.toList==j.toList):=by
 rw[aiO];ext i;ext j;simp
def dR(I:Inv X af U H s)(q:Q (.bl k) H)(e:k=k'):EP X af U Q (.bool k') s:=by
 subst e;apply#[.bl k,H,I,rfl,q]
def Pk:dF X (compareOp .Eq) MP:=by
 intro af s U H x y v u Q I rx ry h;let#[hs,q]:=h;cases x with
 |aC=>
  ext rx;cases y with
  |aC=>ext ry;apply PySem.EqNone.eq_none_none (dR I q (by simp))
  |bl j=>ext ry;apply PySem.EqNone.eq_none_bool (dR I q (by simp))
  |int j=>let#[t',rfl]:=ry;apply PySem.EqNone.eq_none_int (dR I q (by simp))
  |str j=>let#[t',rfl]:=ry;apply PySem.EqNone.eq_none_str (dR I q (by simp))
  |_=>apply absurd (show false=true from hs) aa2
 |bl i=>
  ext rx;cases y with
  |aC=>ext ry;apply PySem.EqNone.eq_bool_none (dR I q (by simp))
  |bl j=>ext ry;apply eq_bool (dR I q Ds)
  |str j=>let#[t',rfl]:=ry;apply PySem.EqMixed.eq_bool_str (dR I q (by simp))
  |_=>apply absurd (show false=true from hs) aa2
 |int i=>
  let#[t,rfl]:=rx;cases y with
  |aC=>ext ry;apply PySem.EqNone.eq_int_none (dR I q (by simp))
  |int j=>let#[t',rfl]:=ry;apply eq_int (dR I q Ax)
  |str j=>let#[t',rfl]:=ry;apply PySem.EqMixed.eq_int_str (dR I q (by simp))
  |_=>apply absurd (show false=true from hs) aa2
 |str i=>
  let#[t,rfl]:=rx;cases y with
  |aC=>ext ry;apply PySem.EqNone.eq_str_none (dR I q (by simp))
  |bl j=>ext ry;apply PySem.EqMixed.eq_str_bool (dR I q (by simp))
  |int j=>let#[t',rfl]:=ry;apply PySem.EqMixed.eq_str_int (dR I q (by simp))
  |str j=>let#[t',rfl]:=ry;apply eq_str (dR I q B8)
  |_=>apply absurd (show false=true from hs) aa2
 |j8 i=>
  let#[t,rfl]:=rx;cases y with
  |j8 j=>let#[t',rfl]:=ry;apply PySem.W.eq_bytes (dR I q Oq)
  |_=>apply absurd (show false=true from hs) aa2
 |_=>ext y<;>apply absurd (show false=true from hs) aa2
def P1:dF X (compareOp .NotEq) NN:=by
 intro af s U H x y v u Q I rx ry h;let#[hs,q]:=h;cases x with
 |aC=>
  ext rx;cases y with
  |aC=>ext ry;apply PySem.EqNone.ne_none_none (dR I q (by simp))
  |bl j=>ext ry;apply PySem.EqNone.ne_none_bool (dR I q (by simp))
  |int j=>let#[t',rfl]:=ry;apply PySem.EqNone.ne_none_int (dR I q (by simp))
  |str j=>let#[t',rfl]:=ry;apply PySem.EqNone.ne_none_str (dR I q (by simp))
  |_=>apply absurd (show false=true from hs) aa2
 |bl i=>
  ext rx;cases y with
  |aC=>ext ry;apply PySem.EqNone.ne_bool_none (dR I q (by simp))
  |bl j=>ext ry;apply ne_bool (dR I q (congrArg not Ds))
  |str j=>let#[t',rfl]:=ry;apply PySem.EqMixed.ne_bool_str (dR I q (by simp))
  |_=>apply absurd (show false=true from hs) aa2
 |int i=>
  let#[t,rfl]:=rx;cases y with
  |aC=>ext ry;apply PySem.EqNone.ne_int_none (dR I q (by simp))
  |int j=>let#[t',rfl]:=ry;apply ne_int (dR I q (congrArg not Ax))
  |str j=>let#[t',rfl]:=ry;apply PySem.EqMixed.ne_int_str (dR I q (by simp))
  |_=>apply absurd (show false=true from hs) aa2
 |str i=>
  let#[t,rfl]:=rx;cases y with
  |aC=>ext ry;apply PySem.EqNone.ne_str_none (dR I q (by simp))
  |bl j=>ext ry;apply PySem.EqMixed.ne_str_bool (dR I q (by simp))
  |int j=>let#[t',rfl]:=ry;apply PySem.EqMixed.ne_str_int (dR I q (by simp))
  |str j=>let#[t',rfl]:=ry;apply ne_str (dR I q (congrArg not B8))
  |_=>apply absurd (show false=true from hs) aa2
 |j8 i=>
  let#[t,rfl]:=rx;cases y with
  |j8 j=>let#[t',rfl]:=ry;apply PySem.W.ne_bytes (dR I q (congrArg not Oq))
  |_=>apply absurd (show false=true from hs) aa2
 |_=>ext y<;>apply absurd (show false=true from hs) aa2
def OT:dF X (compareOp .Lt) (nF λi j=>.bl (decide (i<j))):=CB λ_ _ _ _ _ _ _ q=>lt_int q
def JD:dF X (compareOp .LtE) (nF λi j=>.bl (decide (i<=j))):=CB λ_ _ _ _ _ _ _ q=>le_int q
def Vo:dF X (compareOp .Gt) (nF λi j=>.bl (decide (j<i))):=CB λ_ _ _ _ _ _ _ q=>gt_int q
def Yn:dF X (compareOp .GtE) (nF λi j=>.bl (decide (j<=i))):=CB λ_ _ _ _ _ _ _ q=>ge_int q
def Mc:dF X (compareOp .Is) (λx y H Q=>y=.aC/\Q (.bl (decide (x=.aC))) H):=by
 intro af s U H x y v u Q I rx ry h;let#[rfl,q]:=h;ext ry;refine is_none_gen (dR I q ?_);ext x<;>first
  |(ext rx;rfl)
  |(let#[t,rfl]:=rx;rfl)
def agB:dF X (compareOp .IsNot) (λx y H Q=>y=.aC/\Q (.bl (!decide (x=.aC))) H):=by
 intro af s U H x y v u Q I rx ry h;let#[rfl,q]:=h;ext ry;refine isnot_none_gen (dR I q ?_);ext x<;>first
  |(ext rx;rfl)
  |(let#[t,rfl]:=rx;rfl)
def jr(b:Expr)(h:op≠.In:=by decide)(h2:op≠.NotIn:=by decide):behindInMarks op b=false:=by
 have e1:(op==CmpOp.In)=false:=by ext op<;>first|rfl|exact absurd rfl h
 have e2:(op==CmpOp.NotIn)=false:=by ext op<;>first|rfl|exact absurd rfl h2
 ext b<;>simp[behindInMarks,e1,e2]
def Xp{r:R2}(ho:dF X (compareOp op) r)(ha:PE X a ta)(hb:PE X b tb)(hm:behindInMarks op b=false):PE X (.Compare a [op] [b] pos) (vB r ta tb):=by
 intro af s U H Q I h;apply wpAny_Compare1 (D7 ha hb I h λv u s2 x y H2 I2 rx ry q=>ho af s2 U H2 x y v u Q I2 rx ry q) hm
def Vj(t:TE):TT:=λU H Q=>t U H λx H'=>∃k,x=.bl k/\Q k H'
def S_(ho:dF X (compareOp op) r)(ha:PE X a ta)(hb:PE X b tb)(hm:behindInMarks op b=false):PT X (.Compare a [op] [b] pos) (Vj (vB r ta tb)):=by
 intro af s U H Q I h;refine wpAny_isTrue_Compare1 (ha.n I h λv s1 x H1 I1 r1 q1=>hb.n I1 q1 λu s2 y H2 I2 r2 q2=>
  cQ (ho af s2 U H2 x y v u _ I2 r1 r2 q2) λc s3 #[z,H3,I3,r3,k,e,q3]=>?_) hm
 subst e;ext r3;apply agh #[H3,I3,q3]
def Xr(r r':R2)(ta tb tc:TE):TE:=λU H Q=>ta U H λx H1=>tb U H1 λy H2=>r x y H2 λz H3=>∃k,z=.bl k/\
 (if k=true then tc U H3 λw' H4=>r' y w' H4 Q else Q (.bl false) H3)
def Zd(ho:dF X (compareOp op) r)(mL:dF X (compareOp yx) r')(ha:PE X a ta)(hb:PE X b tb)(hc:PE X c tc)
  (hm:lastMarks [op,yx] [b,c]=false:=by with_unfolding_all rfl):PE X (.Compare a [op,yx] [b,c] pos) (Xr r r' ta tb tc):=by
 intro af s U H Q I h;refine Compare_chain (ha.n I h λv s1 x H1 I1 r1 q1=>chain_link (hb.n I1 q1 λu s2 y H2 I2 r2 q2=>
  cQ (ho af s2 U H2 x y v u _ I2 r1 r2 q2) λd s3 #[z,H3,I3,r3,k,e,q3]=>?_)) hm
 subst e;ext r3;refine agh ?_;cases k with
 |false=>apply ite_ff #[.bl false,H3,I3,rfl,q3]
 |true=>apply ite_tt (chain_last (hc.n I3 q3 λw' s4 z' H4 I4 r4 q4=>mL af s4 U H4 y z' u w' Q I4 r2 r4 q4))
def Np(K:Fr)(x:V)(H:Hp)(k:Bool):Prop:=
 match x with
 |.aC=>k=false
 |.bl b=>k=b
 |.int i=>k=(i != 0)
 |.str y=>y.length<=sizeLine/\k=((y.length:Int) != 0)
 |.j8 y=>y.size<=sizeLine/\k=((y.size:Int) != 0)
 |.ref p=>(∃xs,bY K H p xs/\k=!xs.isEmpty)\/(∃xs,cE K H p xs/\k=!xs.isEmpty)\/∃ak,H p=some (.dK ak)/\k=!ak.isEmpty
 |_=>False
def Ve(r:KV ak vs):(!vs.isEmpty)=!ak.isEmpty:=by
 ext r<;>rfl
def Ul(r:aR xs ay):(!ay.toArray.isEmpty)=!xs.isEmpty:=by
 ext r<;>simp
def yo:(sizeLine:Nat)<2 ^ 63:=by rw[aga];decide
def WN:afj X (λx H Q=>∃k,Np X.K x H k/\Q k H):=by
 intro af s U H x v Q I rx h;let#[k,e,q]:=h;have hl:=yo;have hs:=aga;cases x with
 |aC=>
  ext rx;have e':=e;subst e';apply truthy_none #[H,I,q]
 |bl b=>
  ext rx;have e':=e;subst e';apply agh #[H,I,q]
 |int i=>
  let#[t,rfl]:=rx;have e':=e;subst e';apply PySem.P.truthy_int #[H,I,q]
 |str y=>
  let#[t,rfl]:=rx;obtain⟨hy,e'⟩:y.length<=sizeLine/\k=((y.length:Int) != 0):=e;subst e';apply PySem.P.truthy_str (by omega) #[H,I.tok _,q]
 |j8 y=>
  let#[t,rfl]:=rx;obtain⟨hy,e'⟩:y.size<=sizeLine/\k=((y.size:Int) != 0):=e;subst e';apply PySem.W.truthy_bytes (by omega) #[H,I.tok _,q]
 |ref p=>
  ext rx;have e':=e;rcases e' with⟨xs,hx,e'⟩|⟨xs,hx,e'⟩|⟨ak,hx,e'⟩
  .subst e';let#[ay,r,pl,hz]:=I.list hx;have hlen:=r.length;apply wpAny_truthy_list pl.isList (by simp only[abK];omega) #[H,I.tok _,by rw[Ul r];apply q]
  .subst e';let#[ay,r,pl,hz]:=I.tuple hx;have hlen:=r.length;apply truthy_tuple pl (by simp only[abK];omega) #[H,I.tok _,by rw[Ul r];apply q]
  .subst e';obtain⟨hz,hS,vs,r,m⟩:ak.length<=sizeLine/\(p==sysModules)=false/\∃vs,KV ak vs/\s.heap.DictOf (ie X.prog X.w) p vs:=I.aG p _ hx;have hlen:=Paired.length r;apply wpAny_truthy_dict hS m (by omega) #[H,I.tok _,by rw[Ve r];apply q]
 |_=>apply(show False from e).elim
def VH(ha:PE X a ta)(he:∀whole,isTrue a X.env whole=(do let v <- whole;standAt a.pos;holding [v] (truthy v))):
  PT X a (λU H Q=>ta U H λx H'=>∃k,Np X.K x H' k/\Q k H'):=by
 intro af s U H Q I h;apply isTrue_plain (ha.n I h λv s1 x H1 I1 r1 q1=>WN af s1 U H1 x v Q I1 r1 q1) (he _)
def vals1(r:aR [x] us):∃u,us=[u]/\RelV x u:=by
 cases r with
 |cons r1 r2=>ext r2;apply#[_,rfl,r1]
def vals2(r:aR [x,y] us):∃u w',us=[u,w']/\RelV x u/\RelV y w':=by
 cases r with
 |cons r1 r2=>
  cases r2 with
  |cons r3 r4=>ext r4;apply#[_,_,rfl,r1,r3]
def abJ(hc:X.calm=true):gI X (.builtin "min") (λxs H Q=>∃i j,xs=[.int i,.int j]/\Q (.int (if j<i then j else i)) H):=by
 intro af s U H xs us Q I r h;let#[i,j,rfl,q]:=h;let#[u,w',rfl,#[t,rfl],#[t',rfl]]:=vals2 r;refine min_two_ints (I.ok.hd hc) λh' tk k=>#[_,H,I.kept k,?_,q]
 by_cases hj:j<i
 .rw[if_pos hj,if_pos hj];apply#[_,rfl]
 .rw[abo hj,abo hj];apply#[_,rfl]
structure tU(h:Heap)(x dx C:Addr)(mA:Str->Option Value):Prop where
 obj:h.get? x=some (PySem.W.instObj C dx)
 ns:h.Ns1 dx mA
 ne:dx≠x
def abG{h:Heap}(n:h.Ns1 dx mA):∃od,h.get? dx=some od/\∀name,PySem.W.lookIn name od=some (mA name):=by
 let#[o,es,ep,ho,hd,hk,_,hm]:=n;refine#[o,ho,λname=>?_];have e:=hm name;unfold nsFind findBy at e;rw[<- Array.find?_toList] at e;unfold PySem.W.lookIn;rw[hd];dsimp only
 split
 .rename_i y q;rw[q] at e;apply congrArg some e
 .rename_i q;rw[q] at e;have a:es.toList.any (·.refKey)=false:=by
   rw[List.any_eq_false];intro y hy;let#[z,t,wQ]:=hk y (Array.mem_toList_iff.mp hy);simp[DictEntry.refKey,wQ]
  have a':¬es.toList.any (·.refKey)=true:=by rw[a];apply aa2
  rw[abo a'];apply congrArg some e
def tU.look(I:tU h x dx C mA):∃od,PySem.W.InstAt h x (PySem.W.instObj C dx) C (some od)/\∀name,PySem.W.lookIn name od=some (mA name):=
 let#[od,ho,hl]:=abG I.ns
 #[od,#[I.obj,rfl,rfl,ho],hl]
section
variable{K:Fr}
def get_map(X:K.In s.heap)(I:tU s.heap x dx C mA)(hg:PySem.W.plainGet K C name=true)(hh:PySem.W.hasDictIn K C=true)
  (ha:PySem.W.findIn K (.ref C) name=some none) (hv:mA name=some v) (pX:PySem.W.handedIn v=true) (h:Q v { s with toks:=s.toks+1 }) :
  wpAny (model prog w) A (getAttr (.ref x) name expr) Q E s:=by
 let#[od,J,hl]:=I.look;apply PySem.W.get_value X J (PySem.W.plainGet_of hg).1 (PySem.W.findObj_own hh ha rfl (by rw[hl,hv])) pX h
def aeS(X:K.In s.heap)(I:tU s.heap x dx C mA)(hg:PySem.W.plainGet K C name=true)
  (hf:PySem.W.findIn K (.ref C) name=some (some (.ref f))) (ht:PySem.W.isFn K (.ref f)=true) (hv:mA name=none) (h:Q (.ref f,[.ref x]) s) :
  wpAny (model prog w) A (getMethod (.ref x) name pl) Q E s:=by
 let#[od,J,hl]:=I.look;apply PySem.W.method_fn X J (PySem.W.plainGet_of hg).1 (PySem.W.plainGet_of hg).2 hf (ahp.mp ht) (by show(PySem.W.lookIn name od).map (·.isSome)=some false;rw[hl,hv];rfl) h
def Vn(X:K.In s.heap)(I:tU s.heap x dx C mA)
  (hs:PySem.W.findIn K (.ref C) "__setattr__"=some (some (.builtin "object.__setattr__"))) (hp:PySem.W.plainOver K C=true) (ht:PySem.W.takerIn K C name=some none) (hh:PySem.W.hasDictIn K C=true)
  (hw:PySem.Within mA ns) (hsz:ns.length<=sizeLine)
  (h:∀h',tU h' x dx C (λy=>if y=name then some v else mA y)->Heap.SameBut dx s.heap h'->Q () { s with heap:=h',toks:=s.toks+2 }) :
  wpAny (model prog w) A (setAttr (.ref x) name v) Q E s:=by
 let#[od,J,hl]:=I.look;refine PySem.W.set_plain X J hs (PySem.W.osa_open (r:=none) X J hp ht λb=>?_);let#[cd,hc,HR]:=PySem.W.any_some hh;have hx:=I.obj;refine aaN (acp (aaN (aaN (wpAny_loadPart hx (aaN (PySem.W.Looks.here (PySem.W.looks_clsIn X hc) ?_))))));rw[HR];refine acp (aaN (acp (aaN ?_)));refine wpAny_nsSet1 I.ns λh' vN ck=>?_
 let#[oD,esD,epD,HX,hdD,Xe]:=vN.count (PySem.Within.cons name v hw);refine aaN (wpAny_lookBehind HX (by rw[hdD];apply pastItsLine_dict (af0 Xe (by rw[acF];omega))) ?_);apply acp (h _ #[(ck.2 _ (agM I.ne)).trans I.obj,vN,I.ne] ck)
def V7(X:K.In s.heap)(hm:PySem.W.makesIn K C=true)
  (hi:PySem.W.findIn K (.ref C) "__init__"=some (some (.ref f))) (hf:PySem.W.typeIn K (.ref f)=some (.type "function"))
  (h:codeAny (model prog w) (A.under (.builtin "type.__call__" #[.ref C::vs,kw])) (.call (.ref f) #[.ref (s.heap.objs.size + 1)::vs,kw]) (PySem.W.InitBack (s.heap.objs.size + 1) R)
   { s with heap:=(s.heap.push PySem.W.emptyDict).push (PySem.W.instObj C s.heap.objs.size) }) :
  codeAny (model prog w) A (.call (.ref C) #[vs,kw]) R s:=by
 let#[hh,g,d,t,os]:=s;apply PySem.W.make_core (PySem.W.makes_of X hm) (PySem.W.looks_findIn X hi) (λself=>PySem.W.bind_fn X self hf) (.inl rfl) h
end
def fT(f:Str)(v:V):List (Str×V)->List (Str×V)
 |[]=>[(f,v)]
 |(g,x)::r=>if g=f then(g,v)::r else(g,x)::fT f v r
theorem R0(f g:Str)(v:V):∀fs:List (Str×V),(fT f v fs).lookup g=if g=f then some v else fs.lookup g
 |[]=>by
  show List.lookup g [(f,v)]=_
  by_cases h:g=f
  .have hb:=ahp.mpr h;simp only[List.lookup,hb,if_pos h]
  .have hb:=ad3.mpr h;simp only[List.lookup,hb,abo h]
 |(k,x)::r=>by
  have ih:=R0 f g v r;rw[show fT f v ((k,x)::r)=(if k=f then(k,v)::r else(k,x)::fT f v r) from rfl]
  by_cases hk:k=f
  .rw[if_pos hk]
   by_cases h:g=k
   .have hb:=ahp.mpr h;simp only[List.lookup,hb,if_pos (h.trans hk)]
   .have hb:=ad3.mpr h;simp only[List.lookup,hb,abo (λe:g=f=>h (e.trans hk.symm))]
  .rw[abo hk]
   by_cases h:g=k
   .have hb:=ahp.mpr h;simp only[List.lookup,hb,abo (λe:g=f=>hk (h.symm.trans e))]
   .have hb:=ad3.mpr h;simp only[List.lookup,hb];apply ih
theorem KD(f:Str)(v:V):∀fs:List (Str×V),f∈(fT f v fs).map (·.1)/\∀g,g∈fs.map (·.1)->g∈(fT f v fs).map (·.1)
 |[]=>#[by simp[fT],λg h=>by simp at h]
 |(k,x)::r=>by
  let#[i1,i2]:=KD f v r;rw[show fT f v ((k,x)::r)=(if k=f then(k,v)::r else(k,x)::fT f v r) from rfl]
  by_cases hk:k=f
  .rw[if_pos hk];subst hk;apply#[by simp,λg h=>by simpa using h]
  .rw[abo hk];refine#[?_,λg h=>?_]
   .rw[aaB];apply aab _ i1
   .rw[aaB] at h ⊢;rcases aaO.mp h with e|e
    .exact aaO.mpr (.inl e)
    .exact aab _ (i2 g e)
theorem MN(f:Str)(v:V):∀fs:List (Str×V),(fT f v fs).length<=fs.length+1
 |[]=>by simp[fT]
 |(k,x)::r=>by
  have ih:=MN f v r;rw[show fT f v ((k,x)::r)=(if k=f then(k,v)::r else(k,x)::fT f v r) from rfl]
  by_cases hk:k=f
  .rw[if_pos hk,acF,acF];omega
  .rw[abo hk,acF,acF];omega
def iH.some_of(r:iH (some v) o):∃u,o=some u/\RelV v u:=by
 cases o with
 |none=>apply(show False from r).elim
 |some u=>apply#[u,rfl,r]
def iH.none_of(r:iH none o):o=none:=by
 cases o with
 |none=>rfl
 |some u=>apply(show False from r).elim
def WX(r:RelV v u):PySem.W.handedIn u=true:=by
 cases v with
 |aC=>cases(show u=Value.none from r);rfl
 |bl b=>cases(show u=Value.bool b from r);rfl
 |int i=>let#[t,e]:=(show ∃t,u=Value.int i t from r);ext e;rfl
 |str x=>let#[t,e]:=(show ∃t,u=Value.str x t from r);ext e;rfl
 |j8 b=>let#[t,e]:=(show ∃t,u=Value.bytes b t from r);ext e;rfl
 |tS b=>let#[t,e]:=(show ∃t,u=Value.float b t from r);ext e;rfl
 |ref a=>cases(show u=Value.ref a from r);rfl
 |ty n=>cases(show u=Value.type n from r);rfl
def B_(aG:c9 P w H h)(e:H a=some (.ins C dx fs)):∃mA,tU h a dx C mA/\(∀f,iH (fs.lookup f) (mA f))/\PySem.Within mA (fs.map (·.1))/\fs.length<=1000/\H dx=some (.own a):=by
 let#[d,z,ne,ob,mA,n,r,q]:=(show dJ P w H h a (.ins C dx fs) from aG a _ e)
 apply#[mA,#[ob,n,ne],r,q,z,d]
structure lD(K:Fr)(C:Addr):Prop where
 pg:PySem.W.plainGet K C Str.empty=true
 hd:PySem.W.hasDictIn K C=true
 po:PySem.W.plainOver K C=true
 sa:PySem.W.findIn K (.ref C) "__setattr__"=some (some (.builtin "object.__setattr__"))
def lD.get{K:Fr}(c:lD K C)(f:Str):PySem.W.plainGet K C f=true:=c.pg
def jd(K:Fr)(C:Addr)(f:Str):Prop:=PySem.W.findIn K (.ref C) f=some none
def jd.aaZ{K:Fr}(n:jd K C f):PySem.W.takerIn K C f=some none:=by
 unfold PySem.W.takerIn;rw[show PySem.W.findIn K (.ref C) f=some none from n];rfl
structure mE(K:Fr)(C:Addr)(m:Str)(f:Addr):Prop where
 at_:PySem.W.findIn K (.ref C) m=some (some (.ref f))
 fn:PySem.W.isFn K (.ref f)=true
 kp:PySem.W.keepIn K (.ref f)=true
def Sz(I:Inv X af U H s)(e:H a=some (.ins C dx fs))(c:lD X.K C)(n:jd X.K C f)(l:fs.lookup f=some v)
  (h:∀u s',Inv X af U H s'->RelV v u->Q u s'):wpAny (model X.prog X.w) A (getAttr (.ref a) f b) Q E s:=by
 let#[mA,O,r,_,_,_]:=B_ I.aG e;let#[u,hu,ru]:=iH.some_of (by rw[<- l];apply r f);apply get_map I.cU O (c.get f) c.hd n hu (WX ru) (h u _ (I.tok _) ru)
def Tt(I:Inv X af U H s)(e:H a=some (.ins C dx fs))(c:lD X.K C)(k:mE X.K C m g)(l:fs.lookup m=none)
  (h:Q (.ref g,[.ref a]) s):wpAny (model X.prog X.w) A (getMethod (.ref a) m pl) Q E s:=by
 let#[mA,O,r,_,_,_]:=B_ I.aG e;have hn:=iH.none_of (by rw[<- l];apply r m);apply aeS I.cU O (c.get m) k.at_ k.fn hn h
def LN(I:Inv X af U H s)(e:H a=some (.ins C dx fs))(c:lD X.K C)(n:jd X.K C f)(hl:fs.length<1000)(ry:RelV y u)
  (h:∀s',Inv X af U (upd H a (.ins C dx (fT f y fs))) s'->Q () s'):wpAny (model X.prog X.w) A (setAttr (.ref a) f u) Q E s:=by
 let#[mA,O,r,wi,_,ho]:=B_ I.aG e;have hz:(fs.map (·.1)).length<=sizeLine:=by rw[List.length_map,aga];omega
 refine Vn I.cU O c.sa c.po n.aaZ c.hd wi hz λh' O' sb=>h _ ?_
 have hd:∃o,h'.get? dx=some o:=let#[o,_,_,e',_]:=O'.ns;#[o,e']
 refine I.write (by rw[e];apply True.intro) (.inr ho) (λb q hb z=>(sb.2 b hb).trans z) hd ?_;refine#[by rw[aN O.ne];apply ho,?_,O.ne,O'.obj,_,O'.ns,λg=>?_,λg hg=>?_]
 .have:=MN f y fs;omega
 .show iH ((fT f y fs).lookup g) (if g=f then some u else mA g);rw[R0]
  by_cases q:g=f
  .rw[if_pos q,if_pos q];apply ry
  .rw[abo q,abo q];apply r g
 .by_cases q:g=f
  .rw[q];apply(KD f y fs).1
  .refine(KD f y fs).2 g (wi g λz=>hg ?_);show(if g=f then some u else mA g)=none;rw[abo q];apply z
def Inv.made(I:Inv X af U H s):Inv X af U (upd (upd H s.heap.objs.size (.own (s.heap.objs.size+1))) (s.heap.objs.size+1) (.ins C s.heap.objs.size []))
  { s with heap:=(s.heap.push PySem.W.emptyDict).push (PySem.W.instObj C s.heap.objs.size) }:=by
 have e1:(s.heap.push PySem.W.emptyDict).get? s.heap.objs.size=some PySem.W.emptyDict:=ab4 s.heap rfl;have e2:((s.heap.push PySem.W.emptyDict).push (PySem.W.instObj C s.heap.objs.size)).get? (s.heap.objs.size+1)=some (PySem.W.instObj C s.heap.objs.size):=by
  have:=ab4 (s.heap.push PySem.W.emptyDict) (o:=PySem.W.instObj C s.heap.objs.size) rfl
  rwa [aiA] at this
 have e3:(s.heap.push PySem.W.emptyDict).Ns s.heap.objs.size (λ_=>none):=#[PySem.W.emptyDict,([].toArray),_,e1,rfl,(λe he=>absurd he (by simp)),λ_=>rfl]
 have I1:=I.laid (o:=.own (s.heap.objs.size+1)) (t':=s.toks) (λb u q=>aaA _ q) (abD _) #[_,e1];refine I1.laid (λb u q=>aaA _ q) (Nat.le_of_eq (aiA _ _)) ?_;have ne:s.heap.objs.size≠s.heap.objs.size+1:=acV (aix _);refine#[by rw[aN ne,bX],ade _,ne,e2,λ_=>none,(Heap.Ns1.of_empty e3).at λo q=>aaA _ q,λ_=>True.intro,λy hy=>absurd rfl hy]
def abS(hb:attributeBase e f env (eval e env)=eval e env)
  (h:wpAny (model prog w) A (eval e env) (λo bQ=>wpAny (model prog w) A (getAttr o f true) Q E bQ) E s):wpAny (model prog w) A (eval (.Attribute e f pos) env) Q E s:=
 Attribute_any_ h (by rw[arm_eval_Attribute,hb])
def Zc(K:Fr)(ta:TE)(f:Str):TE:=λU H Q=>ta U H λx H1=>∃a C dx fs v,x=.ref a/\H1 a=some (.ins C dx fs)/\lD K C/\jd K C f/\fs.lookup f=some v/\Q v H1
def agg(K:Fr)(ta tv:TE)(f:Str):TS:=λD U H=>tv U H λy H1=>ta U H1 λx H2=>∃a C dx fs,x=.ref a/\H2 a=some (.ins C dx fs)/\lD K C/\jd K C f/\fs.length<1000/\
 D.nx U (upd H2 a (.ins C dx (fT f y fs)))
def M5(X:Cx)(op:Operator)(rd:V->V->Hp->VK->Prop):Prop:=
 ∀(af) (s) (U) (H) (x y) (u v) (Q),Inv X af U H s->RelV x u->RelV y v->rd x y H Q->wpAny (model X.prog X.w) X.A (inplaceOp op u v) (EP X af U Q) X.xe s
def aeV(K:Fr)(ta tv:TE)(rd:V->V->Hp->VK->Prop)(f:Str):TS:=λD U H=>ta U H λx H1=>∃a C dx fs v,x=.ref a/\H1 a=some (.ins C dx fs)/\lD K C/\jd K C f/\fs.lookup f=some v/\
 tv U H1 λy H2=>rd v y H2 λz H3=>∃yr vt,H3 a=some (.ins C yr vt)/\vt.length<1000/\D.nx U (upd H3 a (.ins C yr (fT f z vt)))
def sy(he:PE X e ta)(hb:attributeBase e f X.env (eval e X.env)=eval e X.env):PE X (.Attribute e f pos) (Zc X.K ta f):=by
 intro af s U H Q I h;refine abS hb (he.n I h λu s1 x H1 I1 rx q=>?_);let#[a,C,dx,fs,v,ex,ea,c,n,l,q]:=q;subst ex;obtain rfl:u=Value.ref a:=rx;apply Sz I1 ea c n l λu' s2 I2 ru=>#[v,H1,I2,ru,q]
def afJ(ha:PE X o ta)(hv:PE X value tv)(hs:swapsWith value (some (.Attribute o f pos')) pos.line X.env=pure false):PS X (.Assign [.Attribute o f pos'] value pos) (agg X.K ta tv f):=by
 intro af s U H D I h;refine plainObj_wpAny_Assign_Attribute (hv.n I h λu s1 y H1 I1 ry q=>ha.n I1 q λov s2 x H2 I2 rx q=>?_) hs;let#[a,C,dx,fs,ex,ea,c,n,l,q2]:=q;subst ex;obtain rfl:ov=Value.ref a:=rx;apply LN I2 ea c n l ry λs3 I3=>#[U,_,I3,q2]
def abj(ha:PE X o ta)(hv:PE X value tv)(hop:M5 X op rd):PS X (.AugAssign (.Attribute o f aiB) op value pos) (aeV X.K ta tv rd f):=by
 intro af s U H D I h;refine wpAny_AugAssign_AttributeAny (ha.n I h λov s1 x H1 I1 rx q=>?_);let#[a,C,dx,fs,v,ex,ea,c,n,l,q]:=q;subst ex;obtain rfl:ov=Value.ref a:=rx;refine Sz I1 ea c n l λu s2 I2 ru=>hv.n I2 q λw3 s3 y H2 I3 ry q3=>BU (hop af s3 U H2 v y u w3 _ I3 ru ry q3) λw4 s4 z H3 I4 rz q=>?_
 let#[yr,vt,Kn,l',q4]:=q;apply LN I4 Kn c n l' rz λs5 I5=>#[U,_,I5,q4]
def UW:V->V->Hp->VK->Prop:=λx y H Q=>∃i j,x=.int i/\y=.int j/\Q (.int (i+j)) H
def adR:M5 X .Add UW:=by
 rintro af s U H x y u v Q I rx ry ⟨i,j,rfl,rfl,q⟩
 let#[t,rfl]:=(show ∃t,u=Value.int i t from rx)
 let#[t',rfl]:=(show ∃t',v=Value.int j t' from ry)
 apply PyProof.Rows.iadd_int #[.int (i+j),H,I.tok _,#[_,rfl],q]
inductive jD(K:Fr)(H:Hp):V->Value->Prop where
 |aC:jD K H .aC (.type "NoneType")
 |bl (x:Bool):jD K H (.bl x) (.type "bool")
 |int (i:Int):jD K H (.int i) (.type "int")
 |str (x:Str):jD K H (.str x) (.type "str")
 |tS (x:UInt64):jD K H (.tS x) (.type "float")
 |lst {a:Addr}{xs:List V} (e:H a=some (.lst xs)):jD K H (.ref a) (.type "list")
 |dZ {a:Addr}{o:Obj}{xs:List V} (e:H a=some (.dZ o (.lst xs))):jD K H (.ref a) (.type "list")
 |tup {a:Addr}{xs:List V} (e:H a=some (.tup xs)):jD K H (.ref a) (.type "tuple")
 |dK {a:Addr}{ak:List (Key×V)} (e:H a=some (.dK ak)):jD K H (.ref a) (.type "dict")
 |dT {a:Addr}{ak:List (List Key×V)} (e:H a=some (.dT ak)):jD K H (.ref a) (.type "dict")
 |ins {a C dx:Addr}{fs:List (Str×V)} (e:H a=some (.ins C dx fs)) (cl:lD K C) (ha:PySem.W.findIn K (.ref C) "__class__"=some (some (.builtin "object.__class__")))
   (hn:PySem.W.specialIn K (.builtin "object.__class__") "__get__"=some (some (.builtin "getset_descriptor.__get__"))) (TM:PySem.W.takesIn K (.builtin "object.__class__")=some true)
   (hm:PySem.W.mroIn K C (.type "object")=some true):jD K H (.ref a) (.ref C)
def ag5(I:Inv X af U H s)(rx:RelV x u)(ty:jD X.K H x t)(e:PySem.W.kitOne X.K t c=some b)(h:∀tk,Q (.bool b) { s with toks:=tk }):
  wpAny (model X.prog X.w) A (call (.builtin "isinstance") [u,c]) Q E s:=by
 cases ty with
 |aC=>cases(show u=Value.none from rx);apply PySem.W.kia_one PySem.W.kitx_none I.cU True.intro e (λz=>nomatch z) h
 |bl y=>cases(show u=Value.bool y from rx);apply PySem.W.kia_one PySem.W.kitx_bool I.cU True.intro e (λz=>nomatch z) h
 |int i=>let#[t,q]:=(show ∃t,u=Value.int i t from rx);ext q;apply PySem.W.kia_one PySem.W.kitx_int I.cU True.intro e (λz=>nomatch z) h
 |str y=>let#[t,q]:=(show ∃t,u=Value.str y t from rx);ext q;apply PySem.W.kia_one PySem.W.kitx_str I.cU True.intro e (λz=>nomatch z) h
 |tS y=>let#[t,q]:=(show ∃t,u=Value.float y t from rx);ext q;apply PySem.W.kia_one PySem.W.kitx_float I.cU True.intro e (λz=>nomatch z) h
 | @lst a xs ea=>
  cases(show u=Value.ref a from rx);let#[_,_,n,_,h1]:=(show dJ X.prog X.w H s.heap a (.lst xs) from I.aG a _ ea)
  apply PySem.W.kia_one PySem.W.kitx_list I.cU #[_,h1,rfl] e (λz=>nomatch z) h
 | @dZ a ob xs ea=>
  cases(show u=Value.ref a from rx);let#[_,_,_,n,_,h1]:=(show dJ X.prog X.w H s.heap a (.dZ ob (.lst xs)) from I.aG a _ ea)
  apply PySem.W.kia_one PySem.W.kitx_list I.cU #[_,h1,rfl] e (λz=>nomatch z) h
 | @tup a xs ea=>
  cases(show u=Value.ref a from rx);let#[_,_,_,p]:=(show dJ X.prog X.w H s.heap a (.tup xs) from I.aG a _ ea)
  let#[o,h1,h2,_]:=p;apply PySem.W.kia_one PySem.W.kitx_tuple I.cU #[o,h1,h2] e (λz=>nomatch z) h
 | @dK a ak ea=>
  cases(show u=Value.ref a from rx);let#[_,_,vs,_,p]:=(show dJ X.prog X.w H s.heap a (.dK ak) from I.aG a _ ea)
  let#[o,es,ep,h1,h2,_]:=p;apply PySem.W.kia_one PySem.W.kitx_dict I.cU #[o,h1,h2.1] e (λz=>nomatch z) h
 | @dT a ak ea=>
  cases(show u=Value.ref a from rx);let#[_,_,xs,_,o,es,ep,h1,h2,_]:=(show dJ X.prog X.w H s.heap a (.dT ak) from I.aG a _ ea)
  apply PySem.W.kia_one PySem.W.kitx_dict I.cU #[o,h1,h2.1] e (λz=>nomatch z) h
 | @ins a C dx fs ea cl ha hn TM hm=>
  cases(show u=Value.ref a from rx);let#[mA,O,_]:=B_ I.aG ea;let#[od,J,_]:=O.look;apply PySem.W.kia_one (PySem.W.kitx_own (cl.get _) cl.hd ha hn TM hm) I.cU J e (λz=>nomatch z) h
structure bx(k:Nat)(A:Around)(cm:Bool:=true):Prop where
 hd:cm=true->A.handled=none
 dp:A.depth+3*k+5<recursionLimit
 un:A.units+16*k+200<cLine
 gd:A.guards=some []
def bx.mono(r:bx k A cm)(h:j<=k):bx j A cm:=#[r.hd,by have:=r.dp;omega,by have:=r.un;omega,r.gd]
def bx.deeper(r:bx (k+1) A cm)(env:Env):bx k (A.deeper env) cm:=
 #[r.hd,by have:=r.dp;show A.depth+1+3*k+5<_;omega,by have:=r.un;show A.units+3+16*k+200<_;omega,r.gd]
def bx.in1(r:bx (k+1) A cm):bx k A.in1 cm:=
 #[r.hd,by have:=r.dp;show A.depth+3*k+5<_;omega,by have:=r.un;show A.units+1+16*k+200<_;omega,r.gd]
def X6{A:Around}:(A.under (.builtin "type.__call__" #[.ref C::us,kw])).depth=A.depth+1:=by
 first|rfl|simp[Around.under,Code.weight,Code.isCreation,Code.isGuard,Code.isCaller,Code.frames,Code.isFrame,guardIds]
def af3{A:Around}:(A.under (.builtin "type.__call__" #[.ref C::us,kw])).units=A.units+1:=by
 first|rfl|simp[Around.under,Code.cUnits,Code.frames,Code.isFrame]
def bx.make(r:bx (k+1) A cm)(C:Addr)(us:List Value)(kw:List (Str×Value)):bx k (A.under (.builtin "type.__call__" #[.ref C::us,kw])) cm:=
 #[r.hd,by have:=r.dp;rw[X6];omega,by have:=r.un;rw[af3];omega,by first|exact r.gd|(simp[Around.under,Code.guards,Code.isGuard,guardIds,pushGuards];apply r.gd)]
def bx.depth(r:bx k A cm):A.depth<recursionLimit:=by have:=r.dp;omega
def bx.units(r:bx k A cm):A.units+64<cLine:=by have:=r.un;omega
def Br:TA:=λ_ H Q=>Q [] H
def Me(ta:TE)(tr:TA):TA:=λU H Q=>ta U H λx H1=>tr U H1 λxs H2=>Q (x::xs) H2
def fq:PA X [] Br:=λ_ _ _ _ H Q I h=>Calls.spliced_nil #[[],H,I,.nil,h]
def cV(ha:PE X e te)(hr:PA X es t)(hs:starEach (e::es) X.env=(false,eval e X.env)::starEach es X.env:=by rfl):PA X (e::es) (Me te t):=by
 intro pos af s U H Q I h;rw[hs];show wpAny _ _ (spliced ((false,eval e X.env)::backTo pos (starEach es X.env))) _ _ s;refine Calls.spliced_cons (ha.n I h λu s1 x H1 I1 r1 q1=>?_);apply hr.n I1 q1 λus s2 xs H2 I2 r2 q2=>#[x::xs,H2,I2,.cons r1 r2,q2]
def ado(t:TA):TE:=λU H Q=>t U H λxs H1=>xs.length<=sizeLine/\∀p,H1 p=none->Q (.ref p) (upd H1 p (.tup xs))
def mG(t:TA):TE:=λU H Q=>t U H λxs H1=>xs.length<=sizeLine/\∀p,H1 p=none->Q (.ref p) (upd H1 p (.lst xs))
def Cs{x1}(h:PA X es t):PE X (.Tuple es x1 pos) (ado t):=by
 intro af s U H Q I hq;refine wpAny_Tuple_spliced (cQ (h pos af s U H _ I hq) ?_)
 rintro us s1 ⟨xs,H1,I1,r,z,q⟩
 refine#[by rw[<- r.length];apply z,?_];have hf:=I1.aG.fresh (abD _);refine#[.ref s1.heap.objs.size,upd H1 s1.heap.objs.size (.tup xs),I1.laid (t':=s1.toks) (λb u e=>aaA _ e) (abD _) ?_,rfl,q _ hf];apply#[z,us,r,#[_,ab4 _ rfl,rfl,rfl,_,rfl]]
def afI(h:PA X es t):PE X (.List es pos) (mG t):=by
 intro af s U H Q I hq;refine wpAny_List_spliced (cQ (h pos af s U H _ I hq) ?_)
 rintro us s1 ⟨xs,H1,I1,r,z,q⟩
 refine#[by rw[<- r.length];apply z,?_];have hf:=I1.aG.fresh (abD _);refine#[.ref s1.heap.objs.size,upd H1 s1.heap.objs.size (.lst xs),I1.laid (t':=s1.toks) (λb u e=>aaA _ e) (abD _) ?_,rfl,q _ hf];apply#[z,us,0,r,ab4 _ rfl]
abbrev Sp:=List V->Hp->VK->XK->Prop
abbrev qE:=List Env->Hp->Shared->XK->Value->Shared->Prop
structure sY(P:Program)(w:World)(K:Fr)(mg:Str->Option Value)(base:Heap)(A:Around)(outer:List Env)(s:Shared)(H:Hp):Prop where
 frames:A.frames=some outer
 mod:Mod K mg base
 bs:∀b o,base.get? b=some o->s.heap.get? b=some o/\H b=none
 jn:base.objs.size<=s.heap.objs.size
 jf:s.heap.FunFrames base outer
 lW:∀b∈aY outer,H b=none
 aG:c9 P w H s.heap
 bare:AllBare s.gens
 hq:Hq K A H
def CE(outer:List Env)(P:Program)(w:World)(H:Hp)(s:Shared)(Q:VK)(u:Value)(s':Shared):Prop:=
 ∃v H',s'.os=s.os/\AllBare s'.gens/\Un (aY outer) [] H H' s.heap s'.heap/\c9 P w H' s'.heap/\RelV v u/\Q v H'
def CR(CX:qE)(outer:List Env)(P:Program)(w:World)(H:Hp)(s:Shared)(Q:VK)(E:XK)(r:Result)(s':Shared):Prop:=
 match r with
 |.ok (.ret u)=>CE outer P w H s Q u s'
 |.ok _=>False
 |.error e=>CX outer H s E e s'
structure b_(P:Program)(w:World)(K:Fr)(mg:Str->Option Value)(base:Heap)(CX:qE)(k:Nat)(f:Addr)(fd:FuncData)(ps:List Str)(sp:Sp)(cm:Bool:=true):Prop where
 len:∀vs H Q E,sp vs H Q E->vs.length=ps.length
 run:∀(A) (outer) (s) (H) (args) (us) (vs) (Q) (E),bx k A cm->sY P w K mg base A outer s H->BindsTo s fd args (ps.zip us)->aR vs us->sp vs H Q E->
  codeAny (model P w) A (.call (.ref f) args) (CR CX outer P w H s Q E) s
def b_.imp{K:Fr}(F:b_ P w K mg base CX k f fd ps sp cm)
  (h:∀vs H Q E,sp' vs H Q E->sp vs H Q E):b_ P w K mg base CX k f fd ps sp' cm:=
 #[λvs H Q E q=>F.len vs H Q E (h _ _ _ _ q),λA outer s H args us vs Q E hr he hb hv hs=>F.run A outer s H args us vs Q E hr he hb hv (h _ _ _ _ hs)]
def sY.make{K:Fr}(e:sY P w K mg base A outer s H)(C:Addr)(us:List Value)(kw:List (Str×Value)):
  sY P w K mg base (A.under (.builtin "type.__call__" #[.ref C::us,kw])) outer s H:=#[by first|exact e.frames|(simpa[Around.under,Code.envs,Code.isFrame,pushEnvs] using e.frames),e.mod,e.bs,e.jn,e.jf,e.lW,e.aG,e.bare,#[e.hq.hd,e.hq.ok,e.hq.lm]]
def Inv.FQ(I:Inv X af U H s):sY X.prog X.w X.K X.mg X.base X.A X.stack s H:=
 #[I.ok.frames,I.ok.mod,I.bs,af0 I.ok.jn I.sz,I.stack,I.vj,I.aG,I.bare,I.hq]
def Inv.after(I:Inv X af U H s)(h:CE X.stack X.prog X.w H s Q u s'):EP X af U Q u s':=by
 let#[v,H',os,bare,un,aG,r,q]:=h;let#[hh,g,d,t,os']:=s';obtain rfl:os'=s.os:=os;apply#[v,H',I.call (g':=g) (d':=d) (ch:=[]) un aG bare (λb z=>absurd z (by simp)),r,q]
def ae9(sp:Sp)(fE:List V)(E:XK)(t:TA):TE:=λU H Q=>t U H λvs H1=>sp (vs++fE) H1 Q E
def BY(C:Addr)(m:Str)(sp:Sp)(fE:List V)(E:XK)(ta:TE)(t:TA):TE:=λU H Q=>ta U H λx H1=>∃a dx fs,x=.ref a/\H1 a=some (.ins C dx fs)/\fs.lookup m=none/\
 t U H1 λvs H2=>sp (x::(vs++fE)) H2 Q E
def Fj(C:Addr)(sp:Sp)(fE:List V)(E:XK)(t:TA):TE:=λU H Q=>t U H λvs H1=>∀x dx,H1 x=none->H1 dx=none->dx≠x->
 sp (.ref x::(vs++fE)) (upd (upd H1 dx (.own x)) x (.ins C dx [])) (λv H2=>v=.aC/\Q (.ref x) H2) E
def Binds(K:Fr)(fd:FuncData)(ps:List Str)(ds:List Value):Prop:=
 ∀(s) (us),K.In s.heap->(us++ds).length=ps.length->BindsTo s fd #[us,[]] (ps.zip (us++ds))
def Binds.all{K:Fr}(h:∀us:List Value,us.length=ps.length->bindArgs fd #[us,[]]=pure (ps.zip us)):Binds K fd ps []:=λs us _ hl=>by
 rw[acw] at hl ⊢;apply .of_eq (h us hl)
def Passes(CX:qE)(X:Cx)(E:XK):Prop:=∀(af) (U) (H) (s) (e) (s'),Inv X af U H s->CX X.stack H s E e s'->X.xe e s'
def Er(F:b_ X.prog X.w X.K X.mg X.base CX k f fd ps sp cm)(hr:bx k X.A cm)(hb:Binds X.K fd ps ds)(hd:aR fE ds)(hx:Passes CX X E)
  (I:Inv X af U H s) (r:aR vs us) (h:sp (vs++fE) H Q E):wpAny (model X.prog X.w) X.A (call (.ref f) us) (EP X af U Q) X.xe s:=by
 have r2:=r.append hd;have hl:(us++ds).length=ps.length:=by rw[<- r2.length];apply F.len _ _ _ _ h
 refine wpAny_call (aiL (F.run X.A X.stack s H #[us,[]] (us++ds) (vs++fE) Q E hr I.FQ (hb s us I.cU hl) r2 h) λr s' hq=>?_);cases r with
 |error e=>apply hx af U H s e s' I hq
 |ok fl=>
  cases fl with
  |ret u=>apply I.after hq
  |next=>apply False.elim hq
  |brk=>apply False.elim hq
  |cont=>apply False.elim hq
def aat(F:b_ X.prog X.w X.K X.mg X.base CX k f fd ps sp cm)(hr:bx k X.A cm)(hg:Gl X x)(hm:X.mg x=some (.ref f))(hk:PySem.W.keepIn X.K (.ref f)=true)(hb:Binds X.K fd ps ds)(hd:aR fE ds)(hx:Passes CX X E)
  (ha:PA X (e::es) t) (eU:(x==("__debug__":Str))=false:=by decide) (he:starEach (e::es) X.env=(false,eval e X.env)::starEach es X.env:=by rfl) (hpl:(backTo pos (starEach es X.env)).any (·.1)=false:=by rfl) :
  PE X (.Call (.Name x p) (e::es) [] pos) (ae9 sp fE E t):=by
 intro af s U H Q I h;refine agj (qX I hg hm ?_ eU);refine PySem.W.callWith_K (h₀:=X.base) I.ok.mod.rO hk (ha.n I h λus s1 vs H1 I1 r q=>#[I1.cU,?_]) he hpl;apply Er F hr hb hd hx I1 r q
def Bl(he:PE X o ta)(c:lD X.K C)(hm:mE X.K C m f)(F:b_ X.prog X.w X.K X.mg X.base CX k f fd ps sp cm)(hr:bx k X.A cm)(hb:Binds X.K fd ps ds)(hd:aR fE ds)(hx:Passes CX X E)(ha:PA X (e::es) t)
  (eE:starEach (e::es) X.env=(false,eval e X.env)::starEach es X.env:=by rfl) (hpl:(backTo pos (starEach es X.env)).any (·.1)=false:=by rfl)
  (ht:eval (.Call (.Attribute o m apos) (e::es) [] pos) X.env=(do
   let ov <- eval o X.env
   standAt apos.atName
   let(f,first) <- holding [ov] (getMethod ov m pl)
   callWith pos f first (backTo pos (starEach (e::es) X.env)) (backToKw pos (keywordEach [] X.env))):=by rfl) :
  PE X (.Call (.Attribute o m apos) (e::es) [] pos) (BY C m sp fE E ta t):=by
 intro af s U H Q I h;refine PySem.W.methodCall_KW (pl:=pl) (he.n I h λu s1 x H1 I1 rx q=>?_) ht;let#[a,dx,fs,ex,ea,l,q]:=q;subst ex;obtain rfl:u=Value.ref a:=rx;refine Tt I1 ea c hm l ?_;refine PySem.W.callWith_K (first:=[.ref a]) (h₀:=X.base) I.ok.mod.rO hm.kp (ha.n I1 q λus s2 vs H2 I2 r q2=>#[I2.cU,?_]) eE hpl;apply Er (us:=.ref a::us) (vs:=.ref a::vs) F hr hb hd hx I2 (.cons rfl r) q2
def T3(he:PE X o ta)(c:lD X.K C)(hm:mE X.K C m f)(F:b_ X.prog X.w X.K X.mg X.base CX k f fd ps sp cm)(hr:bx k X.A cm)(hb:Binds X.K fd ps ds)(hd:aR fE ds)(hx:Passes CX X E)
  (ht:eval (.Call (.Attribute o m apos) [] [] pos) X.env=(do
   let ov <- eval o X.env
   standAt apos.atName
   let(f,first) <- holding [ov] (getMethod ov m pl)
   callWith pos f first (backTo pos (starEach [] X.env)) (backToKw pos (keywordEach [] X.env))):=by rfl) :
  PE X (.Call (.Attribute o m apos) [] [] pos) (BY C m sp fE E ta Br):=by
 intro af s U H Q I h;refine PySem.W.methodCall_KW (pl:=pl) (he.n I h λu s1 x H1 I1 rx q=>?_) ht;let#[a,dx,fs,ex,ea,l,q]:=q;subst ex;obtain rfl:u=Value.ref a:=rx;refine Tt I1 ea c hm l ?_;apply PySem.W.callWith_K0 (first:=[.ref a]) I1.cU hm.kp (Er (us:=[.ref a]) (vs:=[.ref a]) F hr hb hd hx I1 (.cons rfl .nil) q)
structure Mk(K:Fr)(C f:Addr):Prop where
 makes:PySem.W.makesIn K C=true
 init:PySem.W.findIn K (.ref C) "__init__"=some (some (.ref f))
 fn:PySem.W.isFn K (.ref f)=true
 kp:PySem.W.keepIn K (.ref C)=true
def Tj(M:Mk X.K C f)(F:b_ X.prog X.w X.K X.mg X.base CX k f fd ps sp cm)(hr:bx (k+1) X.A cm)(hb:Binds X.K fd ps ds)(hd:aR fE ds)
  (hx:Passes CX X E) (I:Inv X af U H s) (r:aR vs us)
  (h:∀x dx,H x=none->H dx=none->dx≠x->sp (.ref x::(vs++fE)) (upd (upd H dx (.own x)) x (.ins C dx [])) (λv H2=>v=.aC/\Q (.ref x) H2) E) :
  wpAny (model X.prog X.w) X.A (call (.ref C) us) (EP X af U Q) X.xe s:=by
 have hq:=h (s.heap.objs.size+1) s.heap.objs.size (I.aG.fresh (Nat.le_succ _)) (I.aG.fresh (abD _)) (acV (aix _));have I2:=Inv.made (C:=C) I;have r2:aR (V.ref (s.heap.objs.size+1)::(vs++fE)) (Value.ref (s.heap.objs.size+1)::(us++ds)):=.cons rfl (r.append hd);have hl:(Value.ref (s.heap.objs.size+1)::us++ds).length=ps.length:=by
  have e:=r2.length;rw[F.len _ _ _ _ hq] at e;apply e.symm
 refine wpAny_call (V7 I.cU M.makes M.init (ahp.mp M.fn) (aiL (F.run _ X.stack _ _ #[Value.ref (s.heap.objs.size + 1)::us,[]] (Value.ref (s.heap.objs.size + 1)::(us++ds)) _ _ E (hr.make C us [])
  (I2.FQ.make C us []) (hb _ (Value.ref (s.heap.objs.size+1)::us) I2.cU hl) r2 hq) λr s' oj=>?_))
 cases r with
 |error e=>apply hx af U _ _ e s' I2 oj
 |ok fl=>
  cases fl with
  |ret u=>
   let#[v,H',I3,rv,ev,q3]:=I2.after oj;subst ev;apply#[rv,#[V.ref (s.heap.objs.size+1),H',I3,rfl,q3]]
  |next=>apply False.elim oj
  |brk=>apply False.elim oj
  |cont=>apply False.elim oj
def WT(M:Mk X.K C f)(F:b_ X.prog X.w X.K X.mg X.base CX k f fd ps sp cm)(hr:bx (k+1) X.A cm)(hg:Gl X x)(hm:X.mg x=some (.ref C))(hb:Binds X.K fd ps ds)(hd:aR fE ds)(hx:Passes CX X E)
  (ha:PA X (e::es) t) (eU:(x==("__debug__":Str))=false:=by decide) (he:starEach (e::es) X.env=(false,eval e X.env)::starEach es X.env:=by rfl) (hpl:(backTo pos (starEach es X.env)).any (·.1)=false:=by rfl) :
  PE X (.Call (.Name x p) (e::es) [] pos) (Fj C sp fE E t):=by
 intro af s U H Q I h;refine agj (qX I hg hm ?_ eU);refine PySem.W.callWith_K (h₀:=X.base) I.ok.mod.rO M.kp (ha.n I h λus s1 vs H1 I1 r q=>#[I1.cU,?_]) he hpl;apply Tj M F hr hb hd hx I1 r q
def ahw(M:Mk X.K C f)(F:b_ X.prog X.w X.K X.mg X.base CX k f fd ps sp cm)(hr:bx (k+1) X.A cm)(hg:Gl X x)(hm:X.mg x=some (.ref C))(hb:Binds X.K fd ps ds)(hd:aR fE ds)(hx:Passes CX X E)
  (eU:(x==("__debug__":Str))=false:=by decide):PE X (.Call (.Name x p) [] [] pos) (Fj C sp fE E Br):=by
 intro af s U H Q I h;refine agj (qX I hg hm ?_ eU);apply PySem.W.callWith_K0 I.cU M.kp (Tj (us:=[]) M F hr hb hd hx I .nil h)
structure mY(N P:List Str)(sc:Scope):Prop where
 kind:sc.kind=.function
 co:sc.isCoroutine=false
 gen:sc.isGenerator=false
 nd:N.Nodup
 pre:N.take P.length=P
 par:∀x∈P,sc.names.lookup x=some .local\/sc.names.lookup x=some .cell
 We:∀y∈sc.names,y.2≠.free
theorem O1{kindOf:Str->Option NameKind}:∀{binds} {m},(∀v,(x,v)∉binds)->bindL kindOf binds m x=m x
 |[],_,_=>rfl
 |(n,v)::r,m,h=>by
  unfold bindL;rw[O1 λw hw=>h w (aab _ hw)]
  split
  .have:x≠n:=by rintro rfl;apply h v aah
   simp[this]
  .rfl
theorem Nk{kindOf:Str->Option NameKind}:∀{binds} {m},(∀v,(x,v)∉binds)->bindC kindOf binds m x=m x
 |[],_,_=>rfl
 |(n,v)::r,m,h=>by
  unfold bindC;rw[Nk λw hw=>h w (aab _ hw)]
  split
  .rfl
  .have:x≠n:=by rintro rfl;apply h v aah
   simp[this]
theorem TV{kindOf:Str->Option NameKind}:∀{P:List Str} {vs}{i:Nat} {m},P.Nodup->P[i]? = some x->vs[i]? = some v->kindOf x=some .local->
  bindL kindOf (P.zip vs) m x=some v
 |[],_,_,_,_,h,_,_=>by simp at h
 |_::_,[],_,_,_,_,h,_=>by simp at h
 |p::P,w::vs,0,m,nd,h1,h2,hk=>by
  simp at h1 h2;subst h1;subst h2;show bindL kindOf ((p,w)::P.zip vs) m p=_;unfold bindL;rw[O1 λv hv=>(ab6.mp nd).1 (List.of_mem_zip hv).1,if_pos hk];simp
 |p::P,w::vs,i+1,m,nd,h1,h2,hk=>by
  unfold bindL;apply TV (ab6.mp nd).2 (by simpa using h1) (by simpa using h2) hk
theorem MR{kindOf:Str->Option NameKind}:∀{P:List Str} {vs}{i:Nat} {m},P.Nodup->P[i]? = some x->vs[i]? = some v->kindOf x≠some .local->
  bindC kindOf (P.zip vs) m x=some v
 |[],_,_,_,_,h,_,_=>by simp at h
 |_::_,[],_,_,_,_,h,_=>by simp at h
 |p::P,w::vs,0,m,nd,h1,h2,hk=>by
  simp at h1 h2;subst h1;subst h2;show bindC kindOf ((p,w)::P.zip vs) m p=_;unfold bindC;rw[Nk λv hv=>(ab6.mp nd).1 (List.of_mem_zip hv).1,abo hk];simp
 |p::P,w::vs,i+1,m,nd,h1,h2,hk=>by
  unfold bindC;apply MR (ab6.mp nd).2 (by simpa using h1) (by simpa using h2) hk
def start(N:List Str)(vs:List V):St:=vs.map some++List.replicate (N.length-vs.length) none
def g_(CX:qE)(P:Program)(w:World)(K:Fr)(mg:Str->Option Value)(base:Heap)(N:List Str)(qual:Str)(scope:Scope)(f:Addr)(cd:Value)(A:Around)(outer:List Env)(s:Shared)(H:Hp)(E:XK)(cm:Bool:=true):Cx where
 prog:=P
 w:=w
 K:=K
 mg:=mg
 base:=base
 A:=A.deeper (envOfC qual scope s.heap.objs.size f cd)
 N:=N
 cT:=s
 vZ:=H
 env:=envOfC qual scope s.heap.objs.size f cd
 outer:=outer
 stack:=envOfC qual scope s.heap.objs.size f cd::outer
 ex:=[]
 calm:=cm
 fn:=λ_=>true
 pn:=[]
 xe:=λe s'=>wpAny (model P w) (A.deeper (envOfC qual scope s.heap.objs.size f cd)) (leaving (envOfC qual scope s.heap.objs.size f cd) e) (λ_ h_=>CX outer H s E e h_) (λe' h_=>CX outer H s E e' h_) s'
def M8{sc:Scope}(h:sc.names.lookup x=some .cell):∃c,(cellsFrom n sc.names []).lookup x=some c:=by
 have q:=PySem.W.cellsFrom_some sc.names n [] (.inl h);apply afS.mp q
def adf{w:World}{K:Fr}{mg:Str->Option Value}
  (S:mY N ps scope) (hd:cm=true->A.handled=none) (e0:sY P w K mg base A outer s H) (hl:vs.length=ps.length) (r:aR vs us)
  (x:InCallC s s.heap.objs.size (bindL (envOfC qual scope s.heap.objs.size f cd).kindOf (ps.zip us) λ_=>none) (cellsFrom (s.heap.objs.size+1) scope.names []) (bindC (envOfC qual scope s.heap.objs.size f cd).kindOf (ps.zip us) λ_=>none) s1) :
  Inv (g_ CX P w K mg base N qual scope f cd A outer s H E cm) [] (start N vs) H s1:=by
 have hpl:ps.length<=N.length:=by have:=congrArg List.length S.pre;rw[ah9] at this;omega
 let#[h1,tk,rfl,hk]:=x.done;have tN:∀b:Addr,b∉(g_ CX P w K mg base N qual scope f cd A outer s H E cm).ex:=λb z=>absurd (show b∈([]:List Addr) from z) (by simp)
 refine#[#[e0.mod,S.kind,rfl,rfl,abD _,λy z c h1 h2=>?_,λy hy=>?_,λy c _ h=>?_,hd,Around.frames_deeper e0.frames,.inr #[rfl,rfl],λb z=>absurd z (tN b),e0.bs,e0.jn,λb _ _=>tN b,λb z=>absurd z (tN b),e0.jf,e0.lW],
  rfl,e0.bare,Un.kept hk,#[_,x.toInCall.ns,λi y v h1 h2 h3=>?_],λy c h=>#[_,x.cell y c h],e0.aG.fresh (abD _),λy c h=>?_,λp hp=>absurd (show p∈([]:List (Addr×Obj)) from hp) (by simp),e0.aG.kept hk,?_,#[e0.hq.hd,e0.hq.ok,e0.hq.lm]]
 .exact name_of_addr x.apart (PySem.mem_of_lookup h1) (PySem.mem_of_lookup h2)
 .have hy:=hy;rcases hy with hy|hy
  .exact M8 hy
  .exact absurd rfl (S.We _ (PySem.mem_of_lookup hy))
 .exact af4 (x.above y c (PySem.mem_of_lookup h))
 .have hi:i<vs.length:=by
   unfold start at h2
   by_cases hi:i<vs.length
   .exact hi
   .rw[afs (by simpa using hi)] at h2;rw[List.getElem?_replicate] at h2
    split at h2<;>ext h2
  have ha:vs[i]? = some v:=by
   unfold start at h2;rw[agG (by simpa using hi),adm] at h2;exists e,vs[i]?,a,h2;ext h2;rfl
  let#[u,hu,rv]:=r.get ha;have hp:ps[i]? = some y:=by
   rw[<- S.pre,List.getElem?_take_of_lt (by omega)];apply h1
  have Ug:ps.Nodup:=by rw[<- S.pre];apply S.nd.sublist (List.take_sublist _ _)
  refine#[u,rv,?_];rcases S.par y (ag2 hp) with k|k
  .exact .inl #[k,TV Ug hp hu k]
  .let#[c,e]:=M8 k;refine .inr #[.inl k,c,e,?_];have q:=x.cell y c e;rw[MR Ug hp hu (by show scope.names.lookup y≠_;rw[k];decide)] at q;apply q
 .exact e0.aG.fresh (af4 (x.above y c (PySem.mem_of_lookup h)))
 .unfold start;show _=N.length;rw[aa3,List.length_map,adY];omega
def NX{K:Fr}{dV kV doc pm aV ct oc:Value}
  (lk:K.lookup f=some #[oc,od,.func (PySem.W.fnOf name qual params body scope dV kV doc pm an aV ct),qW]) (iD:PySem.W.codeIn K aV qual=true) (S:mY N ps scope)
  (len:∀vs H Q E,sp vs H Q E->vs.length=ps.length)
  (xj:∀(A) (outer) (s) (H) (vs) (Q) (E),bx k (A.deeper (envOfC qual scope s.heap.objs.size f aV)) cm->sp vs H Q E->
   ∃t,iQ (g_ CX P w K mg base N qual scope f aV A outer s H E cm) body t/\t { nx:=λ_ H'=>Q .aC H',rt:=Q } (start N vs) H) :
  b_ P w K mg base CX (k+1) f (PySem.W.fnOf name qual params body scope dV kV doc pm an aV ct) ps sp cm:=by
 refine#[len,λA outer s H args us vs Q E hr e0 hb r q_=>?_];have hl:=len _ _ _ _ q_;have KX:=e0.mod.rO.keeps λb o e=>(e0.bs b o e).1
 have lim:=e0.mod.nolimit.keeps λb o e=>(e0.bs b o e).1
 have ZT:∀y∈ps.zip us,scope.names.lookup y.1=some .local\/(scope.names.lookup y.1=some .cell/\((cellsFrom (s.heap.objs.size+1) scope.names []).lookup y.1).isSome=true):=λ⟨n,v⟩ hy=>by
  rcases S.par n (List.of_mem_zip hy).1 with q|q
  .exact .inl q
  .exact .inr #[q,PySem.W.cellsFrom_some _ _ _ (.inl q)]
 refine codeAny_call_function hr.depth (KX _ _ lk) rfl S.co S.gen rfl (PySem.W.codeRec_of KX iD) (hb _ _ _ _ ?_);refine wpAny_newFunctionEnv_cells S.kind ZT λenv he s1 x=>?_
 subst he;refine#[lim.keeps x.toInCall.keep,codeAny_func ?_];let#[t,ht,hq]:=xj A outer s H vs Q E (hr.deeper _) q_;have I:Inv (g_ CX P w K mg base N qual scope f aV A outer s H E cm) [] (start N vs) H s1:=adf S hr.hd e0 hl r x;refine aeo (ht [] s1 (start N vs) H _ I hq) (λfl s' hs=>?_) λe s' hs=>hs
 have fin:∀{aB} {H'} {v} {u},Inv (g_ CX P w K mg base N qual scope f aV A outer s H E cm) [] aB H' s'->RelV v u->Q v H'->CE outer P w H s Q u s':=
  λ{aB H' v u} J rv q=>#[v,H',J.os,J.bare,J.base,J.aG,rv,q]
 cases fl with
 |ret u=>
  let#[v,aB,H',J,rv,q]:=hs;apply fin J rv q
 |next=>
  let#[aB,H',J,q]:=hs;apply fin (v:=V.aC) (u:=Value.none) J rfl q
 |brk=>
  let#[_,_,_,q]:=hs;apply False.elim q
 |cont=>
  let#[_,_,_,q]:=hs;apply False.elim q
section
variable{id T:String}
def FO(r:List V->Hp->VK->Prop)(t:TA):TE:=λU H Q=>t U H λvs H1=>r vs H1 Q
def o9(hc:gI X (.builtin id) r)(hg:Gl X x)(hm:X.mg x=none)(hv:bootBuiltins x=some (.builtin id))(ha:PA X (e::es) t)(hn:x≠"__name__":=by decide)(eU:(x==("__debug__":Str))=false:=by decide)
  (he:starEach (e::es) X.env=(false,eval e X.env)::starEach es X.env:=by rfl) (hpl:(backTo pos (starEach es X.env)).any (·.1)=false:=by rfl):PE X (.Call (.Name x p) (e::es) [] pos) (FO r t):=by
 intro af s U H Q I h;refine agj (pN I hg hm hv ?_ hn eU);apply PyProof.Rows.callWith_builtin1 (ha.n I h λus s1 vs H1 I1 r1 q1=>hc af s1 U H1 vs us Q I1 r1 q1) he hpl
def CG(hc:gI X (.type T) r)(hg:Gl X x)(hm:X.mg x=none)(hv:bootBuiltins x=some (.type T))(ha:PA X (e::es) t)(hn:x≠"__name__":=by decide)(eU:(x==("__debug__":Str))=false:=by decide)
  (he:starEach (e::es) X.env=(false,eval e X.env)::starEach es X.env:=by rfl) (hpl:(backTo pos (starEach es X.env)).any (·.1)=false:=by rfl):PE X (.Call (.Name x p) (e::es) [] pos) (FO r t):=by
 intro af s U H Q I h;refine agj (pN I hg hm hv ?_ hn eU);apply agP (ha.n I h λus s1 vs H1 I1 r1 q1=>hc af s1 U H1 vs us Q I1 r1 q1) he hpl
end
end L2
namespace HT
open PySem PyProof.Rows
def g8(n d:Nat):Option Int->Nat
 |none=>d
 |some v=>if v<0 then(v+(n:Int)).toNat else min v.toNat n
def JU(n d:Nat):g8 n d none=d:=rfl
def yz(n d k:Nat):g8 n d (some (k:Int))=min k n:=by
 show(if(k:Int)<0 then((k:Int)+(n:Int)).toNat else min (k:Int).toNat n)=min k n;rw[abo (by omega),aim]
end HT
namespace L2
open PySem PySem.Spec PyProof.Rows
abbrev TO:=St->Hp->(Option Int->Hp->Prop)->Prop
def PO(X:Cx)(e:Option Expr)(t:TO):Prop:=
 ∀(af) (s) (U) (H) (Q),Inv X af U H s->t U H Q->
  wpAny (model X.prog X.w) X.A (evalPart e X.env) (λu s'=>∃o H',Inv X af U H' s'/\IsPart u o/\Q o H') X.xe s
def Vp:TO:=λ_ H Q=>Q none H
def Zy(t:TE):TO:=λU H Q=>t U H λx H1=>∃i,x=.int i/\Q (some i) H1
def intsAre_of:∀{us},aR (ns.map V.int) us->IntsAre us ns:=by
 induction ns with
 |nil=>intro us r;rw[aiY] at r;ext r;apply .nil
 |cons n ns ih=>
  intro us r;rw[aaB] at r;cases r with
  |cons r1 r2=>
   let#[t,e]:=r1;subst e;apply .cons n t (ih r2)
section
variable{lo hi:Option Expr}
def HN:PO X none Vp:=by
 intro af s U H Q I h;rw[evalPart_none];apply acp #[none,H,I,.none,h]
def JT(h:PE X e te):PO X (some e) (Zy te):=by
 intro af s U H Q I hw;rw[evalPart_some];refine h.n I hw λu s1 x H1 I1 r1 q1=>?_
 let#[i,rfl,q]:=q1;let#[t,rfl]:=r1;apply#[some i,H1,I1,.int i t,q]
def LC(X:Cx)(r:V->Option Int->Option Int->Hp->VK->Prop):Prop:=
 ∀(af) (s) (U) (H) (x) (v vl vu) (lo hi) (sl) (Q),Inv X af U H s->RelV x v->s.heap.IsSliceOf sl vl vu .none->IsPart vl lo->IsPart vu hi->r x lo hi H Q->
  ∃T id,typeLookup (.type T) "__getitem__"=pure (some (.builtin id))/\s.TypeIs v T/\wpAny (model X.prog X.w) X.A (getItem v (.ref sl)) (EP X af U Q) X.xe s
def tSl(r:V->Option Int->Option Int->Hp->VK->Prop)(te:TE)(tl th:TO):TE:=λU H Q=>te U H λx H1=>tl U H1 λl H2=>th U H2 λu H3=>r x l u H3 Q
def E4(hr:LC X r)(he:PE X e te)(hl:PO X lo tl)(hu:PO X hi th):PE X (.Subscript e (.Slice lo hi none p2) pos) (tSl r te tl th):=by
 intro af s U H Q I h;refine Subscript_ (he.n I h λv s1 x H1 I1 r1 q1=>?_);refine wpAny_Slice (cQ (hl af s1 U H1 _ I1 q1) ?_)
 rintro vl s2 ⟨l,H2,I2,pl,q2⟩
 refine cQ (hu af s2 U H2 _ I2 q2) ?_
 rintro vu s3 ⟨u,H3,I3,pu,q3⟩
 rw[evalPart_none];refine acp ?_;have I4:Inv X af U H3 { s3 with heap:=s3.heap.push { cls:=.type "slice",data:=.fields ([vl,vu,.none].toArray) } }:=I3.kept (t':=s3.toks) λb ob q=>aaA _ q
 let#[T,id,hT,ht,hg]:=hr af { s3 with heap:=s3.heap.push { cls:=.type "slice",data:=.fields ([vl,vu,.none].toArray) } } U H3 x v vl vu l u s3.heap.objs.size Q I4 r1 (Heap.IsSliceOf.new ..) pl pu q3;show wpAny (model X.prog X.w) X.A (subscriptTail e (.Slice lo hi none p2) v (.ref s3.heap.objs.size)) (EP X af U Q) X.xe { s3 with heap:=s3.heap.push { cls:=.type "slice",data:=.fields ([vl,vu,.none].toArray) } };apply tail_any (ops:=[.ref s3.heap.objs.size,v]) ht hT hg (by with_unfolding_all rfl)
def lN(xs:List V)(lo hi:Option Int):List V:=(xs.drop (HT.g8 xs.length 0 lo)).take (HT.g8 xs.length xs.length hi-HT.g8 xs.length 0 lo)
def ahC(xs:List V)(lo hi:Option Int):(lN xs lo hi).length<=xs.length:=by
 unfold lN;rw[ah9,List.length_drop];omega
end
def qv(n:Nat)(i:Int):Option Nat:=if 0<=i then(if i<n then some i.toNat else none) else if -(n:Int)<=i then some (i+n).toNat else none
def gG{α:Type}(xs:List α)(i:Int):Option α:=(qv xs.length i).bind λj=>xs[j]?
def agy(h:qv n i=some j):seqIndex? i n=some j/\j<n/\-(n:Int)<=i/\i<n:=by
 unfold qv at h
 by_cases h0:0<=i
 .rw[if_pos h0] at h;let#[h1,h]:=ci h;have e:=ach h;apply#[by rw[seqIndex_of h0 h1,e],by omega,by omega,h1]
 .rw[abo h0] at h;let#[h1,h]:=ci h;have e:=ach h;apply#[by rw[seqIndex_neg (by omega) h1,e],by omega,h1,by omega]
def ET(h:gG xs i=some v):∃j,seqIndex? i xs.length=some j/\xs[j]? = some v/\j<xs.length/\-(xs.length:Int)<=i/\i<xs.length:=by
 unfold gG at h;exists e,qv xs.length i,j,h;let#[h1,h2,h3,h4]:=agy e;apply#[j,h1,h,h2,h3,h4]
def TZ(b:Expr):Prop:=∀o i,subscripted b false o i=operate [o,i] (getItem o i)
def oU(X:Cx)(r:R2):Prop:=
 ∀(value slice) (af) (s) (U) (H) (x y) (v u) (Q),Inv X af U H s->RelV x v->RelV y u->r x y H Q->
  subscripted slice false v u=operate [v,u] (getItem v u)->wpAny (model X.prog X.w) X.A (subscriptTail value slice v u) (EP X af U Q) X.xe s
def F6(X:Cx)(id:String)(r:V->List V->Hp->VK->Prop):Prop:=
 ∀(af) (s) (U) (H) (x) (xs) (v) (us) (Q),Inv X af U H s->RelV x v->aR xs us->r x xs H Q->
  wpAny (model X.prog X.w) X.A (call (.builtin id) (v::us)) (EP X af U Q) X.xe s
section
def oU.or(h:oU X r)(h':oU X r'):oU X (λx y H Q=>r x y H Q\/r' x y H Q):=by
 intro value slice af s U H x y v u Q I rx ry q hs;rcases q with q|q
 .exact h value slice af s U H x y v u Q I rx ry q hs
 .exact h' value slice af s U H x y v u Q I rx ry q hs
def ae3(hr:oU X r)(ha:PE X a ta)(hb:PE X b tb)(hs:TZ b):PE X (.Subscript a b pos) (vB r ta tb):=by
 intro af s U H Q I h;apply Subscript_ (D7 ha hb I h λv u s2 x y H2 I2 rx ry q=>hr a b af s2 U H2 x y v u Q I2 rx ry q (hs _ _))
def Ge(K:Fr):R2:=λx y H Q=>∃p xs i v,x=.ref p/\y=.int i/\bY K H p xs/\gG xs i=some v/\Q v H
def Ff(K:Fr):R2:=λx y H Q=>∃p xs i v,x=.ref p/\y=.int i/\cE K H p xs/\gG xs i=some v/\Q v H
def KJ:R2:=λx y H Q=>∃z i c,x=.str z/\y=.int i/\z.length<=sizeLine/\gG z.cps.toList i=some c/\Q (.str #[([c].toArray)]) H
def abg:oU X (Ge X.K):=by
 intro value slice af s U H x y v u Q I rx ry h hs;let#[p,xs,i,z,rfl,rfl,hq,he,q]:=h;ext rx;let#[t,rfl]:=ry;let#[ay,r,pl,hz]:=I.list hq;let#[j,h1,h2,h3,h4,h5]:=ET he;let#[w,ew,eB]:=r.get h2;have hl:=r.length;have hn:=yo;have fin:EP X af U Q w s:=#[z,H,I,eB,q]
 by_cases h0:0<=i
 .have hj:i.toNat=j:=by
   rw[seqIndex_of h0 h5] at h1;apply ach h1
  apply item_listR pl.isList h0 (by omega) (by rw[hj];simpa using ew) fin hs
 .have hj:(i+(ay.toArray.size:Int)).toNat=j:=by
   rw[seqIndex_neg (by omega) h4] at h1;rw[abK,<- hl];apply ach h1
  apply subscriptTail_builtinR pl.isList.typeIs slot_list_getitem.lookup
   (wpAny_getItem_list_neg pl.isList (by omega) (by rw[abK]<;>omega) (by omega) (by rw[hj];simpa using ew) #[rfl,fin]) hs
def ahv:oU X (Ff X.K):=by
 intro value slice af s U H x y v u Q I rx ry h hs;let#[p,xs,i,z,rfl,rfl,hq,he,q]:=h;ext rx;let#[t,rfl]:=ry;let#[ay,r,pl,hz]:=I.tuple hq;let#[j,h1,h2,h3,h4,h5]:=ET he;let#[w,ew,eB]:=r.get h2;have hl:=r.length;have hn:=yo;have fin:EP X af U Q w s:=#[z,H,I,eB,q]
 apply subscriptTail_builtinR pl.typeIs slot_tuple_getitem.lookup
  (getItem_tuple pl (by omega) (by omega) (by rw[abK,<- hl];apply h1) (by simpa using ew) #[rfl,fin]) hs
def Xl:oU X KJ:=by
 intro value slice af s U H x y v u Q I rx ry h hs;let#[z,i,c,rfl,rfl,hz,he,q]:=h;let#[t,rfl]:=rx;let#[t',rfl]:=ry;let#[j,h1,h2,h3,h4,h5]:=ET he;have hl:z.cps.toList.length=z.length:=by simp[Str.length]
 rw[hl] at h1 h4 h5;have hn:=yo;apply tail_any (typeIs_str s z t) slot_str_getitem.lookup (getItem_str (by
  have e1:decide (i < -(2 ^ 63:Int))=false:=aa8 (by omega);have e2:decide (i >= 2 ^ 63)=false:=aa8 (by omega);rw[e1,e2,Bool.or_false]) (by rw[h1];simpa using h2) #[.str #[([c].toArray)],H,I.tok _,#[_,rfl],q]) hs
def rIx(K:Fr):R2:=λx y H Q=>Ge K x y H Q\/Ff K x y H Q\/KJ x y H Q
def Y7:oU X (rIx X.K):=abg.or (ahv.or Xl)
def aeI(lo hi:Option Int)(n:Nat):(sliceBounds lo hi none n).1=((HT.g8 n 0 lo:Nat):Int)/\(sliceBounds lo hi none n).2.1=((HT.g8 n n hi:Nat):Int)/\(sliceBounds lo hi none n).2.2=1:=by
 refine#[?_,?_,rfl]
 .cases lo with
  |none=>simp[sliceBounds,HT.g8]
  |some i=>
   simp only[sliceBounds,HT.g8,Option.getD_none,show(1:Int) > 0 by decide,if_true]
   by_cases h:i<0
   .simp only[h,if_true]<;>omega
   .simp only[h,if_false]<;>omega
 .cases hi with
  |none=>simp[sliceBounds,HT.g8]
  |some i=>
   simp only[sliceBounds,HT.g8,Option.getD_none,show(1:Int) > 0 by decide,if_true]
   by_cases h:i<0
   .simp only[h,if_true]<;>omega
   .simp only[h,if_false]<;>omega
def acs(ay:List Value)(lo hi:Option Int):slicePick ay.toArray lo hi none=((ay.drop (HT.g8 ay.length 0 lo)).take (HT.g8 ay.length ay.length hi-HT.g8 ay.length 0 lo)).toArray:=by
 let#[h1,h2,h3]:=aeI lo hi ay.toArray.size;unfold slicePick;rw[h1,h2,h3];simp only[sliceRange_one,pick_run,abK]<;>rfl
def Uq(K:Fr):V->Option Int->Option Int->Hp->VK->Prop:=λx lo hi H Q=>∃a xs,x=.ref a/\bY K H a xs/\∀p,H p=none->Q (.ref p) (upd H p (.lst (lN xs lo hi)))
def Js:LC X (Uq X.K):=by
 intro af s U H x v vl vu lo hi sl Q I rx hs pl pu h;let#[a,xs,rfl,hx,q]:=h;ext rx;let#[ay,r,ht,hz]:=I.list hx;have hlen:=r.length;refine#["list",_,slot_list_getitem.lookup,ht.isList.typeIs,?_];refine wpAny_getItem_list_slice ht.isList hs pl pu .none (by simp) ?_ (by rw[abK]<;>omega);rw[acs,<- hlen];refine#[.ref s.heap.objs.size,_,I.laid (λb ob q=>aaA _ q) (abD _) ?_,rfl,q _ (I.aG.fresh (abD _))];apply#[af0 (ahC xs lo hi) hz,_,0,(r.drop (HT.g8 xs.length 0 lo)).take (HT.g8 xs.length xs.length hi-HT.g8 xs.length 0 lo),ab4 _ rfl]
def nU:V->Bool
 |.aC=>true
 |.bl _=>true
 |.int _=>true
 |.str _=>true
 |_=>false
def qt:V->V->Bool
 |.aC,.aC=>true
 |.bl a,.bl b=>a==b
 |.bl a,.int b=>(if a then 1 else 0)==b
 |.int a,.bl b=>a==(if b then 1 else 0)
 |.int a,.int b=>a==b
 |.str a,.str b=>a==b
 |_,_=>false
def aad(ry:RelV y u)(rx:RelV x v)(fy:nU y=true)(fx:nU x=true):SeqAt.EqAt A s u v (qt y x):=by
 cases y with
 |aC=>
  ext ry;cases x with
  |aC=>ext rx;apply SeqAt.EqAt.same _
  |bl b=>ext rx;apply SeqAt.EqAt.none_bool b
  |int b=>let#[t,rfl]:=rx;apply SeqAt.EqAt.none_int b t
  |str b=>let#[t,rfl]:=rx;apply SeqAt.EqAt.none_str b t
  |_=>apply absurd (show false=true from fx) aa2
 |bl a=>
  ext ry;cases x with
  |aC=>ext rx;apply SeqAt.EqAt.bool_none a
  |bl b=>ext rx;apply SeqAt.EqAt.bool_bool a b
  |int b=>let#[t,rfl]:=rx;apply SeqAt.EqAt.bool_int a b t
  |str b=>let#[t,rfl]:=rx;apply SeqAt.EqAt.bool_str a b t
  |_=>apply absurd (show false=true from fx) aa2
 |int a=>
  let#[t',rfl]:=ry;cases x with
  |aC=>ext rx;apply SeqAt.EqAt.int_none a t'
  |bl b=>ext rx;apply SeqAt.EqAt.int_bool a t' b
  |int b=>let#[t,rfl]:=rx;apply SeqAt.EqAt.int_int a t' b t
  |str b=>let#[t,rfl]:=rx;apply SeqAt.EqAt.int_str a t' b t
  |_=>apply absurd (show false=true from fx) aa2
 |str a=>
  let#[t',rfl]:=ry;cases x with
  |aC=>ext rx;apply SeqAt.EqAt.str_none a t'
  |bl b=>ext rx;apply SeqAt.EqAt.str_bool a t' b
  |int b=>let#[t,rfl]:=rx;apply SeqAt.EqAt.str_int a t' b t
  |str b=>let#[t,rfl]:=rx;apply SeqAt.EqAt.str_str a t' b t
  |_=>apply absurd (show false=true from fx) aa2
 |_=>apply absurd (show false=true from fy) aa2
def iY(x:V)(u:Value):Bool:=match u with
 |.none=>qt .aC x
 |.bool b=>qt (.bl b) x
 |.int i _=>qt (.int i) x
 |.str z _=>qt (.str z) x
 |_=>false
def Ss(r:RelV y u)(f:nU y=true):iY x u=qt y x:=by
 cases y with
 |aC=>ext r;rfl
 |bl b=>ext r;rfl
 |int i=>let#[t,rfl]:=r;rfl
 |str z=>let#[t,rfl]:=r;rfl
 |_=>apply absurd (show false=true from f) aa2
theorem yc:∀{xs} {us},aR xs us->xs.all nU=true->us.any (iY x)=xs.any λy=>qt y x
 |_,_,.nil,_=>rfl
 |y::xs,u::us,.cons r t,f=>by
  rw[aiP,aaV] at f;rw[aiu,aiu,Ss r f.1,yc t f.2]
theorem uw(rx:RelV x v)(fx:nU x=true):∀{xs} {us},aR xs us->xs.all nU=true->∀u∈us,SeqAt.EqAt A s u v (iY x u)
 |_,_,.nil,_=>λu hu=>by ext hu
 |y::xs,u::us,.cons r t,f=>λu' hu=>by
  rw[aiP,aaV] at f;rcases aaO.mp hu with rfl|hu
  .rw[Ss r f.1];apply aad r rx f.1 fx
  .exact uw rx fx t f.2 u' hu
def uA(x:V)(xs:List V):Bool:=xs.any λy=>qt y x
def AB(K:Fr)(neg:Bool):R2:=λx y H Q=>∃p xs,y=.ref p/\(bY K H p xs\/cE K H p xs)/\nU x=true/\xs.all nU=true/\Q (.bl (if neg then !uA x xs else uA x xs)) H
def Ua:dF X (compareOp .In) (AB X.K false):=by
 intro af s U H x y v u Q I rx ry h;let#[p,xs,rfl,hq,fx,fs,q]:=h;ext ry;rcases hq with hq|hq
 .let#[ay,r,pl,hz]:=I.list hq;refine SeqAt.in_listAt (iY x) pl.isList (λw hw=>uw rx fx r fs w (by simpa using hw)) #[.bl _,H,I,rfl,?_];rw[show ay.toArray.any (iY x)=ay.any (iY x) by simp,yc r fs];apply q
 .let#[ay,r,pl,hz]:=I.tuple hq;refine SeqAt.in_tupleAt (iY x) pl (λw hw=>uw rx fx r fs w (by simpa using hw)) #[.bl _,H,I,rfl,?_];rw[show ay.toArray.any (iY x)=ay.any (iY x) by simp,yc r fs];apply q
def Jt:dF X (compareOp .NotIn) (AB X.K true):=by
 intro af s U H x y v u Q I rx ry h;let#[p,xs,rfl,hq,fx,fs,q]:=h;ext ry;rcases hq with hq|hq
 .let#[ay,r,pl,hz]:=I.list hq;refine SeqAt.notIn_listAt (iY x) pl.isList (λw hw=>uw rx fx r fs w (by simpa using hw)) #[.bl _,H,I,rfl,?_];rw[show ay.toArray.any (iY x)=ay.any (iY x) by simp,yc r fs];apply q
 .let#[ay,r,pl,hz]:=I.tuple hq;refine SeqAt.notIn_tupleAt (iY x) pl (λw hw=>uw rx fx r fs w (by simpa using hw)) #[.bl _,H,I,rfl,?_];rw[show ay.toArray.any (iY x)=ay.any (iY x) by simp,yc r fs];apply q
def ahr:gI X (.builtin "len") (λxs H Q=>∃p ys,xs=[.ref p]/\(bY X.K H p ys\/cE X.K H p ys)/\Q (.int ys.length) H):=by
 intro af s U H xs us Q I r h;let#[p,ys,rfl,hq,q]:=h;let#[u,rfl,rx]:=vals1 r;ext rx;have hn:=yo;rcases hq with hq|hq
 .let#[ay,r',pl,hz]:=I.list hq;have hlen:=r'.length;apply Calls.call_len_list pl.isList (by simp only[abK]<;>omega) #[.int ys.length,H,I.tok _,#[s.toks+1,by rw[abK,hlen]],q]
 .let#[ay,r',pl,hz]:=I.tuple hq;have hlen:=r'.length;apply len_tuple pl (by simp only[abK]<;>omega) #[.int ys.length,H,I.tok _,#[s.toks+1,by rw[abK,hlen]],q]
def aai:gI X (.type "list") (λxs H Q=>∃p ys,xs=[.ref p]/\(bY X.K H p ys\/cE X.K H p ys)/\∀l,H l=none->Q (.ref l) (upd H l (.lst ys))):=by
 intro af s U H xs us Q I r h;let#[p,ys,rfl,hq,q]:=h;let#[u,rfl,rx]:=vals1 r;ext rx;have fin:∀(ay),aR ys ay->ys.length<=sizeLine->∀(h') (c'),(∀b o',s.heap.get? b=some o'->h'.get? b=some o')->
   h'.get? s.heap.objs.size=some { cls:=.type "list",dict:=none,data:=.seq ay.toArray c',slots:=([].toArray) }->EP X af U Q (.ref s.heap.objs.size) { s with heap:=h' }:=λay r' hz h' c' kp e=>
  #[.ref s.heap.objs.size,_,I.laid kp (abD _) (show dJ X.prog X.w _ h' _ (.lst ys) from#[hz,ay,c',r',e]),rfl,q _ (I.aG.fresh (abD _))]
 rcases hq with hq|hq
 .let#[ay,r',pl,hz]:=I.list hq;have hlen:=r'.length;let#[o,ho,hc,n,hd]:=pl.isList;apply call_list_seq p (.inl rfl) ho hc hd (λh' c' kp e=>fin ay r' hz h' c' kp e) (by simp only[abK]<;>omega)
 .let#[ay,r',pl,hz]:=I.tuple hq;have hlen:=r'.length;let#[o,ho,hc,n,hd]:=pl;apply call_list_seq p (.inr rfl) ho hc hd (λh' c' kp e=>fin ay r' hz h' c' kp e) (by simp only[abK]<;>omega)
def YY:gI X (.type "tuple") (λxs H Q=>∃p ys,xs=[.ref p]/\((bY X.K H p ys/\∀l,H l=none->Q (.ref l) (upd H l (.tup ys)))\/(cE X.K H p ys/\Q (.ref p) H))):=by
 intro af s U H xs us Q I r h;let#[p,ys,rfl,h]:=h;let#[u,rfl,rx]:=vals1 r;ext rx;rcases h with⟨hq,q⟩|⟨hq,q⟩
 .let#[ay,r',pl,hz]:=I.list hq;have hlen:=r'.length;refine call_tuple_list pl.isList (λh' kp=>?_) (by simp only[abK]<;>omega);have I1:=I.kept (t':=s.toks) kp;have I2:Inv X af U (upd H h'.objs.size (.tup ys)) { s with heap:=h'.push { cls:=.type "tuple",data:=.seq ay.toArray } }:=
   I1.laid (λb o e=>aaA _ e) (abD _) (show dJ X.prog X.w _ _ _ (.tup ys) from#[hz,ay,r',kZ.new _ _])
  apply#[.ref h'.objs.size,_,I2,rfl,q _ (I1.aG.fresh (abD _))]
 .let#[ay,r',pl,hz]:=I.tuple hq;apply call_tuple_same pl #[.ref p,H,I,rfl,q]
def Tp(K:Fr)(T:String)(x:V)(H:Hp):Prop:=match x with
 |.str _=>T="str"
 |.int _=>T="int"
 |.ref p=>(T="list"/\∃xs,bY K H p xs)\/(T="tuple"/\∃o,K.lookup p=some o/\o.cls=.type "tuple"/\o.dict=none)\/
   (T="dict"/\((∃ak,H p=some (.dK ak))\/∃ak,H p=some (.dT ak)))\/(T="set"/\∃S n,H p=some (.set S n))
 |_=>False
def acm(I:Inv X af U H s)(r:RelV x v)(ty:Tp X.K T x H):
  s.TypeIs v T/\∀a,v=.ref a->∃ob,s.heap.get? a=some ob/\ob.dict=none:=by
 cases x with
 |str z=>
  let#[t,rfl]:=r;cases(show T="str" from ty);apply#[typeIs_str s z t,λ_ e=>nomatch e]
 |int i=>
  let#[t,rfl]:=r;cases(show T="int" from ty);apply#[typeIs_int s i t,λ_ e=>nomatch e]
 |ref p=>
  ext r;rcases ty with⟨rfl,xs,hq⟩|⟨rfl,o,hk,hc,hd⟩|⟨rfl,hk⟩|⟨rfl,S,n,hk⟩
  .let#[ay,_,pl,_]:=I.list hq;refine#[pl.isList.typeIs,λa e=>?_];ext e;let#[o,n,e,c,hd,_]:=pl;apply#[o,e,hd]
  .refine#[#[o,I.cU p o hk,hc],λa e=>?_];ext e;apply#[o,I.cU _ o hk,hd]
  .have z:∃o,s.heap.get? p=some o/\o.ExactDict:=by
    rcases hk with⟨ak,hk⟩|⟨ak,hk⟩
    .let#[_,_,_,_,o,_,_,e,ex,_]:=I.aG p _ hk;apply#[o,e,ex]
    .let#[_,_,_,_,o,_,_,e,ex,_]:=I.aG p _ hk;apply#[o,e,ex]
   let#[o,e,ex]:=z;refine#[#[o,e,ex.1],λa e2=>?_];ext e2;apply#[o,e,ex.2.1]
  .let#[o,_,_,_,e,ex,_]:=I.aG p _ hk;refine#[#[o,e,ex.1],λa e2=>?_];ext e2;apply#[o,e,ex.2.1]
 |_=>apply False.elim ty
def VV(K:Fr)(T:String)(r:V->List V->Hp->VK->Prop)(to:TE)(t:TA):TE:=λU H Q=>to U H λx H1=>Tp K T x H1/\t U H1 λxs H2=>r x xs H2 Q
variable{T id:String}
def wo(pa:PlainAttrs T)(slot:Slot T name id)(Ho:typeOf (.builtin id)=pure (.type "method_descriptor"))(hm:F6 X id r)(ho:PE X o to)(ha:PA X (e::es) t)
  (kQ:attributeBase o name X.env (eval o X.env)=eval o X.env:=by rfl)
  (kR:((backTo gR (starEach (e::es) X.env)).all (λx=>!x.1)&&(backToKw gR (keywordEach [] X.env)).all (λx=>x.1.isSome)
   && decide ((e::es).length+([]:List Keyword).length+(if([]:List Keyword).isEmpty then 0 else 1)<30))=true:=by rfl)
  (kT:(apos.endLine==gR.line)=true:=by rfl) (hs:starEach (e::es) X.env=(false,eval e X.env)::starEach es X.env:=by rfl) (Wn:(backTo gR (starEach es X.env)).any (·.1)=false:=by rfl) :
  PE X (.Call (.Attribute o name apos) (e::es) [] gR) (VV X.K T r to t):=by
 intro af s U H Q I h;refine wpAny_Call_method_late kQ kR kT rfl (ho.n I h λv s1 x H1 I1 r1 q=>?_);let#[ty,q1]:=q;let#[h1,h2]:=acm I1 r1 ty;refine#[T,id,pa,slot,Ho,h1,h2,?_];have hA:=ha gR af s1 U H1 _ I1 q1;rw[hs] at hA ⊢;refine Calls.callWith_builtin (by show(false||(backTo gR (starEach es X.env)).any (·.1))=false;rw[Wn]<;>rfl) (Calls.evalArgs_plain ?_);refine cQ hA ?_
 rintro us s2 ⟨vs,H2,I2,r2,q2⟩
 apply hm af s2 U H2 x vs v us Q I2 r1 r2 q2
end
def Fg(X:Cx)(id:String)(r:V->List V->Hp->VK->Prop):Prop:=
 ∀(af) (s) (U) (H) (x) (xs) (v) (us) (Q),Inv X af U H s->RelV x v->aR xs us->r x xs H Q->
  wpAny (model X.prog X.w) X.A (call (.builtin id) (v::us)) (EP X af U Q) X.xe s
def aR.one(h:aR [x] us):∃u,us=[u]/\RelV x u:=by
 rcases h with _|⟨r,_|_⟩
 apply#[_,rfl,r]
def aR.eraseIdx:∀{xs} {us} (i),aR xs us->aR (xs.eraseIdx i) (us.eraseIdx i)
 |_,_,_,.nil=>.nil
 |_,_,0,.cons _ t=>t
 |_,_,i+1,.cons r t=>.cons r (aR.eraseIdx i t)
def Inv.KR{ay its':List Value}(I:Inv X af U H s)(hH:H l=some (.lst xs))
  (e:s.heap.get? l=some { cls:=.type "list",data:=.seq ay.toArray n }) (hf:f ay.toArray=its'.toArray) (hv:aR ys its') (hz:ys.length<=sizeLine) :
  Inv X af U (upd H l (.lst ys)) { s with heap:=s.heap.update l (Obj.mapSeq f),toks:=t' }:=by
 have q:=PySem.IsL.update e f;rw[hf] at q;refine I.write (by rw[hH];apply trivial) (.inl rfl) (λb' u hb hu=>(aeQ s.heap (Obj.mapSeq f) (agM hb)).trans hu) #[_,q] ?_;apply#[hz,its',_,hv,q]
def Inv.Vk(I:Inv X af U H s)(hv:aR ys ay)(hz:ys.length<=sizeLine):
  Inv X af U (upd H s.heap.objs.size (.lst ys)) { s with heap:=s.heap.push { cls:=.type "list",data:=.seq ay.toArray },toks:=t' }:=
 I.laid (λ_ _ q=>aaA _ q) (abD _) #[hz,ay,0,hv,ab4 _ rfl]
def Inv.fresh(I:Inv X af U H s):H s.heap.objs.size=none:=I.aG.fresh (abD _)
def Inv.uC(I:Inv X af U H s)(hH:H l=some (.lst xs)):xs.length<=sizeLine/\∃(ay:List Value) (n:Nat),aR xs ay/\xs.length=ay.length/\s.heap.get? l=some { cls:=.type "list",data:=.seq ay.toArray n }:=by
 let#[z,ay,n,r,e]:=I.aG l _ hH;apply#[z,ay,n,r,r.length,e]
def agZ(h:n<=sizeLine):Builtin.List.listTooLong n=false:=by
 unfold Builtin.List.listTooLong;apply aa8 (by omega)
def UJ:V->List V->Hp->VK->Prop:=λx vs H Q=>∃l xs y,x=.ref l/\vs=[y]/\H l=some (.lst xs)/\xs.length<sizeLine/\Q .aC (upd H l (.lst (xs++[y])))
def Hs:Fg X "list.append" UJ:=by
 intro af s U H x vs v us Q I rx rv h;let#[l,xs,y,rfl,rfl,hH,hz,q]:=h;ext rx;let#[u,rfl,ru]:=rv.one;let#[z,ay,n,r,hl,e]:=I.uC hH;refine call_meets F.slot_list_append #[_,e,rfl] F.entry_list_append (F.args_list_append_2 _ _) (PySem.list_append l ay.toArray n u (by rw[abK];omega)) #[e,?_];refine#[.aC,_,I.KR (its':=ay++[u]) hH e (by simp) (r.append (.cons ru .nil)) ?_,rfl,q];rw[aa3,ac7];omega
def afc:V->List V->Hp->VK->Prop:=λx vs H Q=>∃l b xs zs,x=.ref l/\vs=[.ref b]/\H l=some (.lst xs)/\H b=some (.lst zs)/\xs.length+zs.length<=sizeLine/\Q .aC (upd H l (.lst (xs++zs)))
def Xb:Fg X "list.extend" afc:=by
 intro af s U H x vs v us Q I rx rv h;let#[l,b,xs,zs,rfl,rfl,hH,hB,hz,q]:=h;ext rx;let#[u,rfl,ru]:=rv.one;ext ru;let#[z,ay,n,r,hl,e]:=I.uC hH;let#[z2,uh,n2,r2,m_,e2]:=I.uC hB;have hsz:ay.toArray.size+uh.toArray.size<=sizeLine:=by rw[abK,abK];omega
 have adT:¬(!ay.toArray.isEmpty&&Builtin.List.listTooLong (ay.toArray.size+uh.toArray.size))=true:=by
  rw[agZ hsz,Bool.and_false];apply aa2
 refine call_meets F.slot_list_extend #[_,e,rfl] F.entry_list_extend (F.args_list_extend_2 _ _)
  (AutoSeq1.list_extend_list_list_0 l ay.toArray n b uh.toArray n2 adT (by rw[abK];omega) (by omega)) #[e,e2,?_]
 refine#[.aC,_,I.KR (its':=ay++uh) hH e (by simp) (r.append r2) ?_,rfl,q];rw[aa3];omega
def adw:R2:=λx y H Q=>∃l b xs zs,x=.ref l/\y=.ref b/\H l=some (.lst xs)/\H b=some (.lst zs)/\xs.length+zs.length<=sizeLine/\∀p,H p=none->Q (.ref p) (upd H p (.lst (xs++zs)))
def acY:dF X (binaryOp .Add) adw:=by
 intro af s U H x y v u Q I rx ry h;let#[l,b,xs,zs,rfl,rfl,hH,hB,hz,q]:=h;ext rx;ext ry;let#[z,ay,n,r,hl,e]:=I.uC hH;let#[z2,uh,n2,r2,m_,e2]:=I.uC hB;refine PySem.P.add_list e e2 ?_ (by rw[abK,abK];omega);have ea:ay.toArray++uh.toArray=(ay++uh).toArray:=by simp
 rw[ea];apply#[.ref _,_,I.Vk (r.append r2) (by rw[aa3];omega),rfl,q _ I.fresh]
section
variable[DecidableEq κ]
def fN(ak:List (κ×V))(k:κ):Option V:=(ak.find? λkv=>decide (kv.1=k)).map (·.2)
def putK(ak:List (κ×V))(k:κ)(v:V):List (κ×V):=
 if(ak.any λkv=>decide (kv.1=k))=true then ak.map (λkv=>if kv.1=k then(kv.1,v) else kv) else ak++[(k,v)]
def wW{k:κ}(e:p.1=k):fN (p::r) k=some p.2:=by simp[fN,adV,e]
def yV{k:κ}(e:¬p.1=k):fN (p::r) k=fN r k:=by simp[fN,adV,e]
theorem Gf(k:κ):∀ak:List (κ×V),(ak.any λkv=>decide (kv.1=k))=(fN ak k).isSome
 |[]=>rfl
 |p::r=>by
  rw[aiu]
  by_cases e:p.1=k
  .simp only[wW e,aaC e,Bool.true_or,Option.isSome_some]
  .rw[yV e,aa8 e,Bool.false_or];apply Gf k r
def Dy(ak:List (κ×V))(k:κ)(v:V):(putK ak k v).length<=ak.length+1:=by
 unfold putK
 split
 .rw[List.length_map];omega
 .rw[aa3,acF,List.length_nil];omega
def iH.uu(r:iH o u):o.isSome=u.isSome:=by
 cases o with
 |none=>cases u with
  |none=>rfl
  |some _=>apply(show False from r).elim
 |some _=>cases u with
  |none=>apply(show False from r).elim
  |some _=>rfl
def iH.getD(r:iH o u)(rd:RelV d d'):RelV (o.getD d) (u.getD d'):=by
 cases o with
 |none=>cases u with
  |none=>apply rd
  |some _=>apply(show False from r).elim
 |some _=>cases u with
  |none=>apply(show False from r).elim
  |some _=>apply r
def KV.val(r:KV ak vs)(k:κ):iH (fN ak k) (valueAt vs k):=by
 unfold KV at r
 induction r with
 |nil=>apply True.intro
 | @cons p q ps qs h t ih=>
  let#[h1,h2]:=h
  by_cases e:p.1=k
  .have e':=h1.symm.trans e;have b:valueAt (q::qs) k=some q.2:=by simp[valueAt,adV,e']
   rw[wW e,b];apply h2
  .have e':¬q.1=k:=λz=>e (h1.trans z)
   have b:valueAt (q::qs) k=valueAt qs k:=by simp[valueAt,adV,e']
   rw[yV e,b];apply ih
def KV.any(r:KV ak vs)(k:κ):(ak.any λkv=>decide (kv.1=k))=vs.any λkv=>decide (kv.1=k):=by
 unfold KV at r
 induction r with
 |nil=>rfl
 |cons h t ih=>rw[aiu,aiu,ih,h.1]
def KV.J_(r:KV ak vs)(k:κ)(ry:RelV y u):
  KV (ak.map λkv=>if kv.1=k then(kv.1,y) else kv) (vs.map λkv=>if kv.1=k then(kv.1,u) else kv):=by
 unfold KV at r ⊢
 induction r with
 |nil=>apply .nil
 | @cons p q ps qs h t ih=>
  rw[aaB,aaB];refine .cons ?_ ih;let#[h1,h2]:=h
  by_cases e:p.1=k
  .rw[if_pos e,if_pos (h1.symm.trans e)];apply#[h1,ry]
  .rw[abo e,abo (λz=>e (h1.trans z))];apply#[h1,h2]
def KV.put(r:KV ak vs)(k:κ)(ry:RelV y u):KV (putK ak k y) (stored vs k u):=by
 unfold putK stored;rw[r.any k]
 by_cases e:(vs.any λkv=>decide (kv.1=k))=true
 .rw[if_pos e,if_pos e];apply r.J_ k ry
 .rw[abo e,abo e];apply Paired.snoc r #[rfl,ry]
def KV.keys{vs:List (κ×Value)}(r:KV ak vs):ak.map (·.1)=vs.map (·.1):=by
 unfold KV at r
 induction r with
 |nil=>rfl
 |cons h t ih=>rw[aaB,aaB,ih,h.1]
def KV.length(r:KV ak vs):ak.length=vs.length:=Paired.length r
end
def tQ(r:RelV (kV k) u):(ie P w).is k u=true:=by
 cases k with
 |inl i=>let#[t,e]:=(show ∃t,u=Value.int i t from r);subst e;apply afR P w i t
 |inr x=>let#[t,e]:=(show ∃t,u=Value.str x t from r);subst e;apply XG P w x t
theorem Kc:∀{ks} {us},aR (ks.map kV) us->ItemsAre (ie P w) ks us
 |[],_,r=>by rw[aiY] at r;ext r;apply .nil
 |k::ks,_,r=>by
  rw[aaB] at r;cases r with
  |cons h t=>apply .cons (tQ h) (Kc t)
abbrev KT(H:Hp):List (List Key×V)->List (List Key×Addr×Value)->Prop:=Paired λp q=>p.1=q.1/\Tk H q.2.1 (p.1.map kV)/\RelV p.2 q.2.2
def KT.val(r:KT H ak xs)(k:List Key):iH (fN ak k) ((atKey xs k).map (·.2)):=by
 induction r with
 |nil=>apply True.intro
 | @cons p q ps qs h t ih=>
  let#[h1,_,h2]:=h
  by_cases e:p.1=k
  .have e':=h1.symm.trans e;have b:atKey (q::qs) k=some q.2:=by simp[atKey,adV,e']
   rw[wW e,b];apply h2
  .have e':¬q.1=k:=λz=>e (h1.trans z)
   have b:atKey (q::qs) k=atKey qs k:=by simp[atKey,adV,e']
   rw[yV e,b];apply ih
def KT.J_(r:KT H ak xs)(k:List Key)(ry:RelV y u):
  KT H (ak.map λkv=>if kv.1=k then(kv.1,y) else kv) (xs.map (putAt k u)):=by
 induction r with
 |nil=>apply .nil
 | @cons p q ps qs h t ih=>
  rw[aaB,aaB];refine .cons ?_ ih;let#[h1,h2,h3]:=h;unfold putAt
  by_cases e:p.1=k
  .rw[if_pos e,if_pos (h1.symm.trans e)];apply#[h1,h2,ry]
  .rw[abo e,abo (λz=>e (h1.trans z))];apply#[h1,h2,h3]
def KT.put(r:KT H ak xs)(k:List Key)(hb:Tk H b (k.map kV))(ry:RelV y u):
  KT H (putK ak k y) (storedH xs k b u):=by
 have e:(ak.any λkv=>decide (kv.1=k))=(atKey xs k).isSome:=by
  rw[Gf,(r.val k).uu,ahZ]
 unfold putK storedH;rw[e]
 by_cases q:(atKey xs k).isSome=true
 .rw[if_pos q,if_pos q];apply r.J_ k ry
 .rw[abo q,abo q];apply Paired.snoc r #[rfl,hb,ry]
def KT.keeps(r:KT H ak xs)(ht:∀b (t:l7),H b=some t.ho->H' b=some t.ho):KT H' ak xs:=
 Paired.Bv r λ_ _ z=>#[z.1,let#[t,e,g]:=z.2.1;#[t,e,ht _ t g],z.2.2]
def LD(ok:c9 P w H h)(e:Rd H a u):dJ P w H h a u:=e.ok ok
def oi(ok:c9 P w H h)(e:Rd H a (.dK ak)):ak.length<=sizeLine/\(a==sysModules)=false/\∃vs,KV ak vs/\h.DictOf (ie P w) a vs:=
 show dJ P w H h a (.dK ak) from LD ok e
def R8(ok:c9 P w H h)(e:H a=some (.dK ak)):ak.length<=sizeLine/\(a==sysModules)=false/\∃vs,KV ak vs/\h.DictOf (ie P w) a vs:=oi ok (.inl e)
def uR{ks:List Key}(ok:c9 P w H h)(e:Tk H a (ks.map kV)):(tupleKind (ie P w)).is h ks a:=by
 have q:dJ P w H h a (.tup (ks.map kV)):=by
  let#[t,e1,e2]:=e;cases t with
  |tup xs=>ext e1;apply ok a _ e2
  |vL o xs=>ext e1;apply(ok a _ e2).2
  |iU _ _=>ext e1
  |jq _=>ext e1
 let#[_,ay,r,o,h1,h2,_,n,h3]:=q;apply#[o,ay.toArray,n,h1,h2,h3,by simpa using Kc r]
def pU(ok:c9 P w H h)(e:Rd H a (.dT ak)):ak.length<=sizeLine/\(a==sysModules)=false/\
  ∃xs,KT H ak xs/\h.DictOfH (tupleKind (ie P w)) a xs:=by
 let#[z,y,xs,r,o,es,ep,h1,h2,h3,h4,h5]:=(show dJ P w H h a (.dT ak) from LD ok e)
 refine#[z,y,xs,r,o,es,ep,h1,h2,h3,h4,λx hx=>?_,h5];have all:∀{l} {m},KT H l m->∀x∈m,(tupleKind (ie P w)).is h x.1 x.2.1:=by
  intro l m q
  induction q with
  |nil=>intro x hx;apply nomatch hx
  | @cons p q ps qs hq t ih=>
   intro x hx;rcases aaO.mp hx with e|hx
   .subst e;apply uR ok (by rw[<- hq.1];apply hq.2.1)
   .exact ih x hx
 apply all r x hx
def Yu(ok:c9 P w H h)(e:H a=some (.dT ak)):ak.length<=sizeLine/\(a==sysModules)=false/\
  ∃xs,KT H ak xs/\h.DictOfH (tupleKind (ie P w)) a xs:=pU ok (.inl e)
def jl(H:Hp)(a:Addr)(y:V)(r:Option V):Prop:=
 (∃ak k,Rd H a (.dK ak)/\y=kV k/\r=fN ak k)\/∃ak k b,Rd H a (.dT ak)/\y=.ref b/\Tk H b (k.map kV)/\r=fN ak k
def uZ(H:Hp)(a:Addr)(y v:V)(H':Hp):Prop:=
 (∃ak k,H a=some (.dK ak)/\y=kV k/\ak.length<sizeLine/\H'=upd H a (.dK (putK ak k v)))\/
 ∃ak k b,H a=some (.dT ak)/\y=.ref b/\Tk H b (k.map kV)/\ak.length<sizeLine/\H'=upd H a (.dT (putK ak k v))
theorem jl.k{k:Key}(e:H a=some (.dK ak)):jl H a (kV k) (fN ak k):=.inl #[ak,k,.inl e,rfl,rfl]
theorem uZ.k{k:Key}(e:H a=some (.dK ak))(hl:ak.length<sizeLine):uZ H a (kV k) v (upd H a (.dK (putK ak k v))):=.inl #[ak,k,e,rfl,hl,rfl]
def Inv.big(I:Inv X af U H s):sysModules<s.heap.objs.size:=by
 have h:=(I.mod.glob.keeps I.bk).lt;apply Nat.lt_trans (by decide) h
def aa6(hu:A.units+1<cLine)(I:Inv X af U H s)(g:jl H a y (some v))(ry:RelV y u)(h:∀w' s',Inv X af U H s'->RelV v w'->Q w' s'):
  wpAny (model X.prog X.w) A (getItem (.ref a) u) Q E s:=by
 rcases g with⟨ak,k,e,ey,l⟩|⟨ak,k,b,e,ey,eb,l⟩
 .subst ey;let#[z,hd,vs,rel,dd]:=oi I.aG e;let#[w',hw,eB]:=iH.some_of (by rw[l];apply rel.val k);apply wpAny_getItem_of (tQ ry) dd.mapOf hw (h w' _ (I.tok _) eB)
 .subst ey;cases(show u=Value.ref b from ry);let#[z,hd,xs,rel,dd]:=pU I.aG e;let#[w',hw,eB]:=iH.some_of (by rw[l];apply rel.val k);let#[p,hp,HD]:=adq.mp hw;refine wpAny_getItem_heap (ahq hu) (uR I.aG eb) dd hp ?_;rw[HD];apply h w' _ (I.tok _) eB
def UG(hu:A.units+1<cLine)(I:Inv X af U H s)(g:jl H a y o)(ry:RelV y u)(h:∀s',Inv X af U H s'->Q (.bool o.isSome) s'):
  wpAny (model X.prog X.w) A (compareOp .In u (.ref a)) Q E s:=by
 rcases g with⟨ak,k,e,ey,l⟩|⟨ak,k,b,e,ey,eb,l⟩
 .subst ey;let#[z,hd,vs,rel,dd]:=oi I.aG e;refine wpAny_in_of (tQ ry) hd dd.mapOf ?_;rw[<- (rel.val k).uu,<- l];apply h _ (I.tok _)
 .subst ey;cases(show u=Value.ref b from ry);let#[z,hd,xs,rel,dd]:=pU I.aG e;refine wpAny_in_heap (ahq hu) (uR I.aG eb) hd dd ?_;have q:=(rel.val k).uu;rw[ahZ] at q;rw[<- q,<- l];apply h _ (I.tok _)
def aaQ(hu:A.units+1<cLine)(I:Inv X af U H s)(g:jl H a y o)(ry:RelV y u)(h:∀s',Inv X af U H s'->Q (.bool (!o.isSome)) s'):
  wpAny (model X.prog X.w) A (compareOp .NotIn u (.ref a)) Q E s:=by
 rcases g with⟨ak,k,e,ey,l⟩|⟨ak,k,b,e,ey,eb,l⟩
 .subst ey;let#[z,hd,vs,rel,dd]:=oi I.aG e;refine wpAny_notIn_of (tQ ry) hd dd.mapOf ?_;rw[<- (rel.val k).uu,<- l];apply h _ (I.tok _)
 .subst ey;cases(show u=Value.ref b from ry);let#[z,hd,xs,rel,dd]:=pU I.aG e;refine wpAny_notIn_heap (ahq hu) (uR I.aG eb) hd dd ?_;have q:=(rel.val k).uu;rw[ahZ] at q;rw[<- q,<- l];apply h _ (I.tok _)
def So(I:Inv X af U H s)(mu:xE (H a))(hs:Heap.SameBut a s.heap h')(he:∃q,h'.get? a=some q)(new:dJ X.prog X.w (upd H a ob) h' a ob):
  Inv X af U (upd H a ob) { s with heap:=h',toks:=t' }:=
 I.write mu (.inl rfl) (λb q hb z=>(hs.2 b hb).trans z) he new
def KL(z:ak.length<=sizeLine)(hd:(a==sysModules)=false)(rel:KV ak vs)(dd:h'.DictOf (ie P w) a vs):
  dJ P w H' h' a (.dK ak):=#[z,hd,vs,rel,dd]
def V1(hu:A.units+1<cLine)(I:Inv X af U H s)(g:uZ H a y v H')(ry:RelV y u)(rv:RelV v r)(h:∀s',Inv X af U H' s'->Q () s'):
  wpAny (model X.prog X.w) A (setItem (.ref a) u r) Q E s:=by
 rcases g with⟨ak,k,e,ey,l,eH⟩|⟨ak,k,b,e,ey,eb,l,eH⟩
 .subst ey eH;let#[z,hd,vs,rel,dd]:=R8 I.aG e;have hz:vs.length<=sizeLine:=by rw[<- rel.length];apply z
  have hl:(putK ak k v).length<=sizeLine:=by have:=Dy ak k v;omega
  refine wpAny_setItem_pairs (hsz:=hz) (tQ ry) dd λh' pQ hs=>h _ ?_
  have he:∃q,h'.get? a=some q:=let#[q,_,_,hq,_]:=pQ;#[q,hq]
  apply So I (by rw[e];apply True.intro) hs he (KL hl hd (rel.put k rv) pQ)
 .subst ey eH;cases(show u=Value.ref b from ry);let#[z,hd,xs,rel,dd]:=Yu I.aG e;have hz:xs.length<=sizeLine:=by rw[<- Paired.length rel];apply z
  have hl:(putK ak k v).length<=sizeLine:=by have:=Dy ak k v;omega
  refine wpAny_setItem_heap (hsz:=hz) (ahq hu) (uR I.aG eb) dd λh' pQ hs=>h _ ?_
  let#[q,es,ep,hq,h2,h3,h4,_,h5]:=pQ;refine So I (by rw[e];apply True.intro) hs #[q,hq] #[hl,hd,_,(rel.put k eb rv).keeps λc ys ec=>?_,q,es,ep,hq,h2,h3,h4,h5];rw[aN (afP ec e (by ext ys<;>intro z<;>ext z))];apply ec
def Xs(I:Inv X af U H s)(e:Rd H a (.dK ak))(h:∀t s',Inv X af U H s'->Q (.int ak.length t) s'):wpAny (model X.prog X.w) A (call (.builtin "len") [.ref a]) Q E s:=by
 let#[z,hd,vs,rel,dd]:=oi I.aG e;refine call_len_dict hd dd (by rw[<- rel.length];rw[aga] at z;omega) ?_;rw[<- rel.length];apply h _ _ (I.tok _)
def yC(i:Expr):Prop:=∀ov iv,subscripted i false ov iv=operate [ov,iv] (getItem ov iv)
def Rt{T id:String}
  (hl:typeLookup (.type T) "__getitem__"=pure (some (.builtin id))) (hs:yC slice)
  (h:wpAny (model prog w) A (eval value env) (λo bQ=>wpAny (model prog w) A (eval slice env) (λi qR=>qR.TypeIs o T/\wpAny (model prog w) A (getItem o i) Q E qR) E bQ) E s) :
  wpAny (model prog w) A (eval (.Subscript value slice pos) env) Q E s:=by
 refine Subscript_ (aeo h (λo bQ CA=>aeo CA (λi qR K0=>?_) λ_ _ x=>x) λ_ _ x=>x);let#[hT,K0]:=K0;unfold subscriptTail;refine aaN ?_;rw[getitemInPython_of_ne hT.not_modules];refine aaN (wpAny_specialOf hT hl ?_);have fin:wpAny (model prog w) A (subscripted slice false o i) (λr Aw=>wpAny (model prog w) A (letTemporaryGo value o r >>= λ_=>pure r) Q E Aw) E qR:=by
  rw[hs o i];apply wpAny_operating (aeo K0 (λr Aw aag=>aaN (wpAny_letTemporaryGo (acp aag))) λ_ _ x=>x)
 first
  |exact acp (aaN fin)
  |exact aaN (acp (aaN fin))
  |exact aaN fin
def Y0(I:Inv X af U H s)(g:jl H a y o):s.TypeIs (.ref a) "dict":=by
 rcases g with⟨ak,k,e,_,_⟩|⟨ak,k,b,e,_,_,_⟩
 .let#[_,_,vs,_,dd]:=oi I.aG e;apply dd.typeIs
 .let#[_,_,xs,_,dd]:=pU I.aG e;apply dd.typeIs
def afV(td ty:TE):TE:=λU H Q=>td U H λx H1=>ty U H1 λy H2=>∃a v,x=.ref a/\jl H2 a y (some v)/\Q v H2
def adF(ty td:TE):TE:=λU H Q=>ty U H λy H1=>td U H1 λx H2=>∃a o,x=.ref a/\jl H2 a y o/\Q (.bl o.isSome) H2
def adt(ty td:TE):TE:=λU H Q=>ty U H λy H1=>td U H1 λx H2=>∃a o,x=.ref a/\jl H2 a y o/\Q (.bl (!o.isSome)) H2
def agQ(td ty tv:TE):TS:=λD U H=>tv U H λv H1=>td U H1 λx H2=>ty U H2 λy H3=>∃a H4,x=.ref a/\uZ H3 a y v H4/\D.nx U H4
def Wm(hu:X.A.units+1<cLine)(ho:PE X o td)(hi:PE X i ty)(hs:yC i):PE X (.Subscript o i pos) (afV td ty):=by
 intro af s U H Q I h;refine Rt PySem.F.slot_dict_getitem.lookup hs (ho.n I h λu s1 x H1 I1 rx q1=>hi.n I1 q1 λiv s2 y H2 I2 ry q=>?_);let#[a,v,ex,g,q2]:=q;subst ex;obtain rfl:u=Value.ref a:=rx;apply#[Y0 I2 g,aa6 hu I2 g ry λw' s3 I3 eB=>#[v,H2,I3,eB,q2]]
def S8(hu:X.A.units+1<cLine)(hi:PE X i ty)(ho:PE X o td):PC X .In i o (adF ty td):=by
 intro af s U H Q I h;refine hi.n I h λiv s1 y H1 I1 ry q1=>ho.n I1 q1 λu s2 x H2 I2 rx q=>?_
 let#[a,ov,ex,g,q2]:=q;subst ex;obtain rfl:u=Value.ref a:=rx;apply UG hu I2 g ry λs3 I3=>#[.bl ov.isSome,H2,I3,rfl,q2]
def ZS(hu:X.A.units+1<cLine)(hi:PE X i ty)(ho:PE X o td):PC X .NotIn i o (adt ty td):=by
 intro af s U H Q I h;refine hi.n I h λiv s1 y H1 I1 ry q1=>ho.n I1 q1 λu s2 x H2 I2 rx q=>?_
 let#[a,ov,ex,g,q2]:=q;subst ex;obtain rfl:u=Value.ref a:=rx;apply aaQ hu I2 g ry λs3 I3=>#[.bl (!ov.isSome),H2,I3,rfl,q2]
def IC(hu:X.A.units+1<cLine)(ho:PE X o td)(hi:PE X i ty)(hv:PE X value tv)(hs:swapsWith value (some (.Subscript o i pos')) pos.line X.env=pure false):
  PS X (.Assign [.Subscript o i pos'] value pos) (agQ td ty tv):=by
 intro af s U H D I h;refine wpAny_Assign_Subscript (hv.n I h λr s1 v H1 I1 rv q1=>ho.n I1 q1 λu s2 x H2 I2 rx q2=>hi.n I2 q2 λiv s3 y H3 I3 ry q=>?_) hs;let#[a,H4,ex,g,q3]:=q;subst ex;obtain rfl:u=Value.ref a:=rx;apply V1 hu I3 g ry rv λs4 I4=>#[U,H4,I4,q3]
def afy(h:Heap)(hb:sysModules<h.objs.size):dJ P w H (h.push { cls:=.type "dict",data:=.dict ([].toArray) }) h.objs.size (.dK []):=
 #[ade _,ad3.mpr (agM (acV hb)),[],.nil,Heap.DictOf.new h]
def XO(h:Heap)(hb:sysModules<h.objs.size):dJ P w H (h.push { cls:=.type "dict",data:=.dict ([].toArray) }) h.objs.size (.dT []):=
 #[ade _,ad3.mpr (agM (acV hb)),[],.nil,_,([].toArray),0,ab4 _ rfl,#[rfl,rfl,rfl],rfl,rfl,ac6]
def agE:TE:=λ_ H Q=>∀p,H p=none->Q (.ref p) (upd H p (.dK []))
def ada:TE:=λ_ H Q=>∀p,H p=none->Q (.ref p) (upd H p (.dT []))
def acS:PE X (.Dict [] [] pos) agE:=λaf s U H Q I h=>
 wpAny_Dict_empty #[.ref s.heap.objs.size,_,I.laid (λ_ _ q=>aaA _ q) (abD _) (afy s.heap I.big),rfl,h _ (I.aG.fresh (abD _))]
def X_:PE X (.Dict [] [] pos) ada:=λaf s U H Q I h=>
 wpAny_Dict_empty #[.ref s.heap.objs.size,_,I.laid (a:=s.heap.objs.size) (o:=.dT []) (t':=s.toks) (λ_ _ q=>aaA _ q) (abD _) (XO s.heap I.big),rfl,h _ (I.aG.fresh (abD _))]
structure M2(X:Cx)(o:Expr)(m:Str)(apos:Pos)(e f:Expr)(gR:Pos):Prop where
 base:attributeBase o m X.env (eval o X.env)=eval o X.env
 few:((backTo gR (starEach [e,f] X.env)).all (λx=>!x.1)&&(backToKw gR (keywordEach [] X.env)).all (λx=>x.1.isSome)
  && decide (([e,f]:List Expr).length+([]:List Keyword).length+(if([]:List Keyword).isEmpty then 0 else 1)<30))=true
 line:(apos.endLine==gR.line)=true
 trees:backTo gR (starEach [e,f] X.env)=[(false,eval e X.env),(false,eval f X.env)]
def NZ(H:Hp)(a:Addr):Prop:=(∃ak,Rd H a (.dK ak))\/∃ak,Rd H a (.dT ak)
def US(I:Inv X af U H s)(d:NZ H a):
  s.TypeIs (.ref a) "dict"/\(∀b,Value.ref a=.ref b->∃ob,s.heap.get? b=some ob/\ob.dict=none)/\(a==sysModules)=false:=by
 rcases d with⟨ak,e⟩|⟨ak,e⟩
 .let#[_,hd,vs,_,dd]:=oi I.aG e;refine#[dd.typeIs,λb q=>?_,hd];ext q;let#[ob,_,_,h1,h2,_]:=dd;apply#[ob,h1,h2.2.1]
 .let#[_,hd,xs,_,dd]:=pU I.aG e;refine#[dd.typeIs,λb q=>?_,hd];ext q;let#[ob,_,_,h1,h2,_]:=dd;apply#[ob,h1,h2.2.1]
def ZM(hu:A.units+1<cLine)(I:Inv X af U H s)(g:jl H a y o)(ry:RelV y u)(rd:RelV d r)(h:∀w' s',Inv X af U H s'->RelV (o.getD d) w'->Q w' s'):
  wpAny (model X.prog X.w) A (call (.builtin "dict.get") [.ref a,u,r]) Q E s:=by
 rcases g with⟨ak,k,e,ey,l⟩|⟨ak,k,b,e,ey,eb,l⟩
 .subst ey;let#[z,hd,vs,rel,dd]:=oi I.aG e;refine call_meetsIn PySem.F.slot_dict_get dd.typeIs PySem.F.entry_dict_get (PySem.F.args_dict_get_3 _ _ _) (meets_dict_get_default (ie X.prog X.w) a (tQ ry) hd r) #[_,dd.mapOf,h _ _ (I.tok _) ?_];rw[l];apply(rel.val k).getD rd
 .subst ey;cases(show u=Value.ref b from ry);let#[z,hd,xs,rel,dd]:=pU I.aG e;refine call_meetsIn PySem.F.slot_dict_get dd.typeIs PySem.F.entry_dict_get (PySem.F.args_dict_get_3 _ _ _) (meetsH_dict_get_default (tupleKind (ie X.prog X.w)) a b hd r) #[ahq hu,k,xs,uR I.aG eb,dd,h _ _ (I.tok _) ?_];rw[l];apply(rel.val k).getD rd
def afB(td ty tx:TE):TE:=λU H Q=>td U H λx H1=>∃a,x=.ref a/\NZ H1 a/\ty U H1 λy H2=>tx U H2 λz H3=>∃o,jl H3 a y o/\Q (o.getD z) H3
def Ml(hu:X.A.units+1<cLine)(ho:PE X o td)(he:PE X e ty)(hf:PE X f tx)(m:M2 X o "get" apos e f gR):PE X (.Call (.Attribute o "get" apos) [e,f] [] gR) (afB td ty tx):=by
 intro af s U H Q I h;refine wpAny_Call_method m.base m.few m.line PySem.F.plainAttrs_dict PySem.F.slot_dict_get PySem.F.type_dict_get (ho.n I h λu s1 x H1 I1 rx q=>?_);let#[a,ex,d,q1]:=q;subst ex;obtain rfl:u=Value.ref a:=rx;let#[t1,t2,_]:=US I1 d;refine#[t1,t2,?_];rw[m.trees];refine Calls.callWith_builtin rfl (Calls.evalArgs_plain (Calls.spliced_cons (cQ (he af s1 U H1 _ I1 q1) λiv s2 #[y,H2,I2,ry,q2]=>
  Calls.spliced_cons (cQ (hf af s2 U H2 _ I2 q2) λfv s3 #[z,H3,I3,rz,ov,g,q3]=>Calls.spliced_nil ?_))))
 apply ZM hu I3 g ry rz λw' s4 I4 eB=>#[_,H3,I4,eB,q3]
def Z4(I:Inv X af U H s)(e:Rd H a (.dK ak))(h:∀p s',H p=none->Inv X af U (upd H p (.dK ak)) s'->Q (.ref p) s'):wpAny (model X.prog X.w) A (call (.type "dict") [.ref a]) Q E s:=by
 let#[z,hd,vs,rel,dd]:=oi I.aG e;refine kt_call_dict hd dd (by rw[<- rel.length];apply z) λh' pQ hs=>?_
 refine h _ _ (I.aG.fresh (abD _)) (I.laid (λb q hq=>?_) (abD _) (KL z (ad3.mpr (agM (acV I.big))) rel pQ));apply(hs.2 b (acV (abh hq))).trans (aaA _ hq)
end L2
namespace MZ
open PySem PySem.W PySem.Calls PyProof.Rows
def adj:∀(ns) (vs),WellAll P h vs (ns.map WData.int)->IntsAre vs ns:=by
 intro ns
 induction ns with
 |nil=>
  intro vs w;rw[aiY] at w;ext w;apply .nil
 |cons n ns ih=>
  intro vs w;rw[aaB] at w;cases w with
  |cons a b=>
   ext a;apply .cons _ _ (ih _ b)
def Y9{l:OpenLaw}(hn:l.most=some n)
  (Bw:l.row.toRowW.claim.pre args=true) (AU:WellAll P h vals args) :
  ∃a vs ns,vals=[Value.ref a]/\args=[WData.list (ns.map WData.int)]/\h.get? a=some { cls:=.type "list",data:=.seq vs.toArray }/\IntsAre vs ns/\ns.length<=n:=by
 have U3:=(pre_splitW Bw).1;have hc:l.pre.holds [] { args:=args }=true:=(pre_splitW Bw).2;let#[d,r,rfl,h1,h2]:=hasAllW_cons U3;obtain rfl:=hasAllW_nil h2;let#[xs,rfl,h3]:=hasW_list h1;let#[ns,rfl]:=items_int h3;have hlen:ns.length<=n:=by
  unfold OpenLaw.pre at hc;have h4:(WTm.not (.lt (.lit (.int (n:Int))) (.len (.arg 0)))).holds [] { args:=[.list (ns.map .int)] }=true:=by
   have h4:=(holds_andW hc).1;rw[hn] at h4;apply h4
  have h5:=condW_of h4 (w_not (w_lt w_lit (w_len_list (w_arg rfl))));rw[List.length_map] at h5;refine Nat.le_of_not_lt λq=>?_
  have q':(n:Int)<((ns.length:Nat):Int):=by omega
  first
   |(rw[aaC q'] at h5;apply absurd h5 (by decide))
   |(simp at h5;omega)
 cases AU with
 |cons w1 w2=>
  ext w2;cases w1 with
  |list ho Km=>apply#[_,_,ns,rfl,rfl,ho,adj ns _ Km,hlen]
def U8(l:OpenLaw)(args:List WData):l.row.toRowW.claim.post args (.bool true) args=true:=
 postW_of (r:=l.row.toRowW) (X:=(true==true))
  (show WShape.has [] (.bool true) .bool=true by first|rfl|decide|simp[WShape.has,WShape.arms,WShape.armsAll])
  (show(WTm.eq .res (.lit (.bool true))).value [] { args:=args,res:=some (.bool true),after:=args }=some (.bool (true==true)) from w_eq_bool (w_res rfl) w_lit) rfl
def Zk{l:OpenLaw}
  (hn:l.most=some n) (yl:d.params.defaults=[])
  (call:∀(w) (cT bQ) (mg mb) (fa) (o) (pm cd doc) (a) (vs) (ns),
   Ground q loose [] XP w cT mg mb bQ.heap->YP w bQ.heap->
   bQ.heap.get? fa=some o->o.data=.func (docDef d.name d.params d.body d.scope pm cd doc)->bQ.heap.CodeRec cd d.name->mg d.name=some (.ref fa)->
   bQ.heap.get? a=some { cls:=.type "list",data:=.seq vs.toArray }->IntsAre vs ns->ns.length<=n->bQ.gens=([].toArray)->
   codeAny (model l.prog w) callerA (.call (.ref fa) #[[.ref a],[]]) (λr s'=>r=.ok (.ret (.bool true))/\OldK bQ.heap s'.heap/\s'.os=bQ.os/\AllBare s'.gens) bQ) :
  WalkO q loose XP YP l.row.toRowW d [] (λf vs=>PySem.call f vs):=by
 intro w cT bQ mg mb G YY fa o pm cd doc dV kV ho hd iD hD wN hg args vals as Bw aij mR AU yD;obtain rfl:dV=.none:=Dflts.none hD yl;obtain rfl:kV=.none:=Dflts.noKw hD;let#[a,vs,ns,rfl,rfl,IG,hints,hlen]:=Y9 hn Bw AU;refine enter_call (aiL (call w cT bQ mg mb fa o pm cd doc a vs ns G YY ho (fd_plain hd) iD wN IG hints hlen hg) λr s' hq=>?_);let#[rfl,h2,h3,h4]:=hq;apply#[.inl #[.bool true,.bool true,[],rfl,λ_=>rfl,.bool true,U8 l _,λ_=>#[List.Pairwise.nil,λ_ hm=>(nomatch hm)]],h2,h3,h4]
end MZ
namespace L2
open PySem PySem.Spec PyProof.Rows
theorem EE:∀{vs} {ns},IntsAre vs ns->aR (ns.map V.int) vs
 |_,_,.nil=>.nil
 |_,_,.cons n t h=>.cons #[t,rfl] (EE h)
abbrev dO:qE:=λ_ _ _ _ _ _=>False
abbrev E0:XK:=λ_ _ _=>False
def oE:Passes dO X E0:=λ_ _ _ _ _ _ _ h=>h.elim
structure iR(K:Fr)(x qual:Str)(st:Stmt)(f:Addr)(fd:FuncData):Prop where
 ex:∃(oc:Value) (od:Option Addr) (kV doc pm:Value) (an:Option Addr) (aV ct:Value) (qW:Array (Option Value)),
  fd=PySem.W.fnOf x qual (lP st) (iz st) (c8 st) .none kV doc pm an aV ct/\K.lookup f=some #[oc,od,.func fd,qW]/\PySem.W.codeIn K aV qual=true
 kp:PySem.W.keepIn K (.ref f)=true
section
variable{K:Fr}
def iR.ok{st:Stmt}(F:iR K x qual st f fd)(S:mY N ps (c8 st))(len:∀vs H Q E,sp vs H Q E->vs.length=ps.length)
  (xj:∀(aV:{c:Value // c=fd.code}) (A) (outer) (s) (H) (vs) (Q) (E),bx k (A.deeper (envOfC qual (c8 st) s.heap.objs.size f aV)) cm->sp vs H Q E->
   ∃t,iQ (g_ dO P w K mg base N qual (c8 st) f aV A outer s H E cm).i7 (iz st) t/\t { nx:=λ_ H'=>Q .aC H',rt:=Q } (start N vs) H):b_ P w K mg base dO (k+1) f fd ps sp cm:=by
 let#[oc,od,kV,doc,pm,an,aV,ct,qW,rfl,lk,iD]:=F.ex;refine NX lk iD S len λA outer s H vs Q E hr q_=>?_
 let#[t,h,q]:=xj #[aV,rfl] A outer s H vs Q E hr q_;apply#[t,h.i7,q]
def iR.binds{st:Stmt}(F:iR K x qual st f fd)
  (h:∀(kV doc pm) (an) (aV ct) (us),us.length=ps.length->bindArgs (PySem.W.fnOf x qual (lP st) (iz st) (c8 st) .none kV doc pm an aV ct) #[us,[]]=pure (ps.zip us)):Binds K fd ps []:=by
 let#[oc,od,kV,doc,pm,an,aV,ct,qW,rfl,lk,iD]:=F.ex;apply .all (h kV doc pm an aV ct)
def Si{st:Stmt}{kV doc pm aV ct:Value}(l:K.lookup f=some #[oc,od,.func (PySem.W.fnOf x qual (lP st) (iz st) (c8 st) .none kV doc pm an aV ct),qW])
  (c:PySem.W.codeIn K aV qual=true) (k:PySem.W.keepIn K (.ref f)=true):iR K x qual st f (PySem.W.fnOf x qual (lP st) (iz st) (c8 st) .none kV doc pm an aV ct):=#[#[oc,od,kV,doc,pm,an,aV,ct,qW,rfl,l,c],k]
end
def iy(hr:bx k A cm):A.units+1<cLine:=aih (Nat.add_le_add_left (by decide:1<=64) _) hr.units
def vD(h:n<=1000):n<sizeLine:=aih h (by decide)
def ahJ{A B:Prop}(h:B):if false=true then A else B:=by
 rw[abo aa2];apply h
def ahX{A B:Prop}(h:A):if true=true then A else B:=by
 rw[if_pos rfl];apply h
def aI(H H':Hp):Prop:=∀b o,H b=some o->H' b=some o
def aI.refl(H:Hp):aI H H:=λ_ _ h=>h
def aI.trans(a:aI H H1)(b:aI H1 H2):aI H H2:=λc o h=>b c o (a c o h)
def aI.free(e:aI H H')(h:H' l=Option.none):H l=Option.none:=by
 cases q:H l with
 |none=>rfl
 |some o=>
  rw[e l o q] at h;ext h
def aI.seq{K:Fr}(e:aI H H')(h:bY K H a xs):bY K H' a xs:=by
 rcases h with(h|⟨o,h⟩)|h
 .exact .inl (.inl (e _ _ h))
 .exact .inl (.inr #[o,e _ _ h])
 .exact .inr h
def Xi:gI X (.builtin "len") (λxs H Q=>∃a ak,xs=[V.ref a]/\H a=some (.dK ak)/\Q (.int ak.length) H):=by
 intro af s U H xs us Q I r h;let#[a,ak,rfl,ha,q]:=h;let#[u,rfl,ru]:=vals1 r;ext ru;apply Xs I (.inl ha) λt s' I'=>#[.int ak.length,H,I',#[t,rfl],q]
def LL(a:Addr)(cls:Value)(de:Option Addr):HO:=.ext λh=>∃oe,h.get? a=some oe/\oe.cls=cls/\(∀dx,de=some dx->oe.dict=some dx/\PySem.W.notCls oe=true)
def Mv(e:h.get? a=some oe)(c:oe.cls=cls)(d:∀dx,de=some dx->oe.dict=some dx/\PySem.W.notCls oe=true):dJ P w H h a (LL a cls de):=
 #[#[oe,e,c,d],#[oe,e],λ_ _ #[o,q,z] k=>#[o,k o q,z]]
def v8(ob:Obj)(a:Addr)(cls:Value)(de:Option Addr):HO:=.dZ ob (LL a cls de)
def RC(x:c9 P w H h)(e:H a=some (v8 ob a cls de)):∃oe,h.get? a=some oe/\oe.cls=cls:=let#[oe,a,b,_]:=(x a _ e).2.1;#[oe,a,b]
def Gw(n:Nat)(t:Tok):Str->Option Value:=λy=>if y="slot" then some (.int n t) else none
def GO(dx:Addr)(n:Nat):HO:=.ext λh=>∃t,h.Ns1 dx (Gw n t)
def ags(e:h.Ns1 dx (Gw n t)):dJ P w H h dx (GO dx n):=
 #[#[t,e],let#[o,_,_,q,_]:=e;#[o,q],λ_ _ #[t,e] k=>#[t,e.at k]]
def nM(o:Obj):Option Value:=match o.data with
 |.fields vs=>vs[2]?
 |_=>none
def DK{α:Type}:Sem α->Prop
 |.pure _=>True
 |.raise _=>True
 |.unsupported _=>True
 |.finish _=>True
 |.rule _ k=>DK (k ())
 |.at _ k=>DK (k ())
 |.load _ _ k=>∀o,DK (k o)
 |.update _ _ f k=>(∀o,(f o).dict=o.dict/\nM (f o)=nM o)/\DK (k ())
 |.alloc _ k=>∀a,DK (k a)
 |.stack k=>∀l,DK (k l)
 |_=>False
def Kd(h h':Heap):Prop:=∀(a:Nat) (o),h.objs[a]? = some o->∃o',h'.objs[a]? = some o'/\o'.dict=o.dict/\nM o'=nM o
def Kd.refl(h:Heap):Kd h h:=λa o e=>#[o,e,rfl,rfl]
def Kd.trans(x:Kd h h1)(y:Kd h1 h2):Kd h h2:=λa o e=>by
 let#[o1,e1,d1,f1]:=x a o e;let#[o2,e2,d2,f2]:=y a o1 e1;apply#[o2,e2,d2.trans d1,f2.trans f1]
def Kd.push(h:Heap)(o:Obj):Kd h (h.push o):=λa u e=>by
 let#[objs,l]:=h;refine#[u,?_,rfl,rfl];show(objs.push o)[a]? = some u;have lt:=(Array.getElem?_eq_some_iff.mp e).1;rw[Array.getElem?_push_lt lt];rw[Array.getElem?_eq_getElem lt] at e;apply e
def Kd.update(h:Heap)(b:Addr)(hf:∀o,(f o).dict=o.dict/\nM (f o)=nM o):Kd h (h.update b f):=λa u e=>by
 let#[objs,l]:=h;show ∃o',(objs.modify b f)[a]? = some o'/\_;have e:=e;rw[Array.getElem?_modify,e]
 split
 .exact#[f u,rfl,hf u]
 .exact#[u,rfl,rfl,rfl]
theorem Kd.at(k:Kd h h')(e:h.get? a=some o)(e':h'.get? a=some o'):o'.dict=o.dict/\nM o'=nM o:=by
 have raw:∀{h:Heap} {o},h.get? a=some o->h.objs[a]? = some o:=λ{h o} e=>by
  unfold Heap.get? at e
  split at e
  .cases e
  .exact e
 let#[u,q,d]:=k a o (raw e);rw[raw e'] at q;ext q;apply d
def Vl:∀(t) {Q:α->Pos->Shared->Prop} {E} {p} {s},DK t->Kd h0 s.heap->Sem.wp M Γ t Q E p s->Sem.wp M Γ t (λa p' s'=>Q a p' s'/\Kd h0 s'.heap) (λe p' s'=>E e p' s'/\Kd h0 s'.heap) p s:=by
 intro t
 induction t with
 |pure a=>intro Q E p s d k h;apply#[h,k]
 |raise e=>intro Q E p s d k h;apply#[h,k]
 |unsupported w=>intro Q E p s d k h;apply h
 |finish e=>intro Q E p s d k h;apply h
 |rule tag f ih=>intro Q E p s d k h;apply ih () d k h
 | «at» pos f ih=>intro Q E p s d k h;apply ih () d k h
 |load a part f ih=>intro Q E p s d k h;let#[o,e,h]:=h;apply#[o,e,ih o (d o) k h]
 |update a part f g ih=>intro Q E p s d k h;apply#[h.1,ih () d.2 (k.trans (Kd.update _ _ d.1)) h.2]
 |alloc o f ih=>intro Q E p s d k h;apply ih _ (d _) (k.trans (Kd.push _ _)) h
 |stack f ih=>intro Q E p s d k h;apply ih _ (d _) k h
 |loadIfAlive=>intro Q E p s d;apply d.elim
 |point=>intro Q E p s d;apply d.elim
 |register=>intro Q E p s d;apply d.elim
 |fresh=>intro Q E p s d;apply d.elim
 |ask=>intro Q E p s d;apply d.elim
 |choose=>intro Q E p s d;apply d.elim
 |os=>intro Q E p s d;apply d.elim
 |call=>intro Q E p s d;apply d.elim
 |handled=>intro Q E p s d;apply d.elim
 |newGen=>intro Q E p s d;apply d.elim
 |genState=>intro Q E p s d;apply d.elim
 |resume=>intro Q E p s d;apply d.elim
 |yield=>intro Q E p s d;apply d.elim
 |fork=>intro Q E p s d;apply d.elim
 |thread=>intro Q E p s d;apply d.elim
 |await=>intro Q E p s d;apply d.elim
def uD(d:DK t)(h:wpAny M A t Q E s):wpAny M A t (λa s'=>Q a s'/\Kd s.heap s'.heap) (λe s'=>E e s'/\Kd s.heap s'.heap) s:=
 λΓ p hΓ=>Vl t d (Kd.refl _) (h Γ p hΓ)
def DK.bind:∀{m},DK m->(∀a,DK (f a))->DK (m >>= f):=by
 intro m
 induction m with
 |pure a=>intro d h;apply h a
 |raise e=>intro d h;apply d
 |unsupported w=>intro d h;apply d
 |finish e=>intro d h;apply d
 |rule tag g ih=>intro d h;apply ih () d h
 | «at» pos g ih=>intro d h;apply ih () d h
 |load a part g ih=>intro d h o;apply ih o (d o) h
 |update a part f g ih=>intro d h;apply#[d.1,ih () d.2 h]
 |alloc o g ih=>intro d h a;apply ih a (d a) h
 |stack g ih=>intro d h l;apply ih l (d l) h
 |loadIfAlive=>intro d;apply d.elim
 |point=>intro d;apply d.elim
 |register=>intro d;apply d.elim
 |fresh=>intro d;apply d.elim
 |ask=>intro d;apply d.elim
 |choose=>intro d;apply d.elim
 |os=>intro d;apply d.elim
 |call=>intro d;apply d.elim
 |handled=>intro d;apply d.elim
 |newGen=>intro d;apply d.elim
 |genState=>intro d;apply d.elim
 |resume=>intro d;apply d.elim
 |yield=>intro d;apply d.elim
 |fork=>intro d;apply d.elim
 |thread=>intro d;apply d.elim
 |await=>intro d;apply d.elim
def Ih(a:Addr):DK (load a):=λ_=>trivial
def aeX(v:Value):DK (fieldsOf v):=by
 unfold fieldsOf
 split
 .refine(Ih _).bind λo=>?_
  split<;>trivial
 .trivial
def AD(v:Value)(i:Nat):DK (field v i):=by
 unfold field;refine(aeX v).bind λo=>?_
 split<;>trivial
def JV(v:Value)(i:Nat)(x:Value)(hi:i≠2):DK (setField v i x):=by
 unfold setField
 split
 .unfold updateField;refine(Ih _).bind λo=>?_
  split
  .split
   .refine#[λo=>?_,trivial];let#[c,d,dt,sl]:=o;cases dt with
    |fields vs=>apply#[rfl,by show(vs.setIfInBounds i x)[2]? = vs[2]?;rw[Array.getElem?_setIfInBounds_ne hi]]
    |_=>apply#[rfl,rfl]
   .trivial
  .trivial
 .trivial
def JY(e:Value)(f:Option Addr):DK (setFlight e f):=by
 unfold setFlight;refine(AD e 1).bind λtb=>?_
 split
 .exact JV _ _ _ (by decide)
 .trivial
def UE(env:Env)(outer:List Env):DK (behindIsImport env outer):=by
 unfold behindIsImport
 split
 .trivial
 .split
  .trivial
  .exact(AD _ _).bind λ_=>trivial
def acn:DK underTheClaimsCaller:=λ_=>trivial
def ahd(env:Env)(i:Bool)(l:List Env):DK (keptBack env i l):=by
 unfold keptBack
 split
 .split
  .trivial
  .exact acn.bind λ_=>trivial
 .trivial
theorem Ub:∀l:List Env,DK (readyFrames l)
 |[]=>trivial
 |env::outer=>by
  unfold readyFrames
  split
  .refine(Ih _).bind λo=>?_
   split
   .trivial
   .refine(UE _ _).bind λ_=>(ahd _ _ _).bind λ_=>?_
    apply#[λ_=>#[rfl,rfl],Ub outer]
  .trivial
def Xq(env:Env):DK (PySem.frameOf env):=by
 unfold PySem.frameOf;refine DK.bind (λ_=>trivial) λl=>?_
 refine DK.bind ?_ λr=>?_
 .unfold frameObject
  split
  .trivial
  .exact(Ub _).bind λ_=>trivial
 .split<;>trivial
def ac3(f:Addr)(b:Bool):DK (entryPlaceOf f b):=by
 unfold entryPlaceOf;refine DK.bind (λ_=>trivial) λl=>?_
 split<;>trivial
def aa1(a b c d e:Value)(pl:List Value):DK (EntryCells.newEntry a b c d e pl):=by
 unfold EntryCells.newEntry newFields newObj;dsimp only
 split<;>split<;>first|trivial|exact λ_=>trivial
def LM(e:Value)(env:Env):DK (noteFrame e env):=by
 unfold noteFrame
 split
 .refine(AD e 1).bind λhead=>?_
  have rest:∀f:Addr,DK (do setField e 1 (<- EntryCells.newEntry head (<- PySem.frameOf env) .none (rawInt f) .none (<- entryPlaceOf f (head != .none)))):=λf=>(Xq env).bind λ_=>(ac3 _ _).bind λ_=>(aa1 _ _ _ _ _ _).bind λ_=>JV _ _ _ (by decide)
  split
  .refine(AD head 3).bind λx=>?_
   split
   .trivial
   .exact(JV _ _ _ (by decide)).bind λ_=>rest _
  .exact rest _
 .trivial
def Fv(env:Env)(e:Value):DK (leaving env e):=(LM e env).bind λ_=>JY e none
def c9.tracked(x:c9 P w H h)(k:∀b u o,H b=some o->h.get? b=some u->h'.get? b=some u):c9 P w H h':=λa o e=>
 (x a o e).gH (λb u hb q=>hb.elim (λz=>k b u o (by rw[z];apply e) q) λz=>k b u _ z q) (λ_ z=>z) λ_ _ z=>z
def c9.alive(x:c9 P w H h)(e:H a=some o):∃u,h.get? a=some u:=by
 have q:=x a o e;cases o with
 |lst xs=>let#[_,_,_,_,e]:=q;apply#[_,e]
 |tup xs=>let#[_,_,_,ob,e,_]:=q;apply#[_,e]
 |dK ak=>let#[_,_,_,_,ob,_,_,e,_]:=q;apply#[_,e]
 |dT ak=>let#[_,_,_,_,ob,_,_,e,_]:=q;apply#[_,e]
 |set S n=>let#[ob,_,_,_,e,_]:=q;apply#[_,e]
 |ins C dx fs=>let#[_,_,_,e,_]:=q;apply#[_,e]
 |own y=>apply q
 |xd fs=>let#[_,#[_,_,_,e,_],_]:=q;apply#[_,e]
 |aJ lo hi=>let#[_,_,_,e]:=q;apply#[_,e]
 |dZ ob u=>apply#[_,q.1]
 |qo ps=>apply#[_,(show h.get? a=some _ from q)]
 |iU _ _=>let#[_,e,_]:=q;apply#[_,e]
 |jq _=>let#[_,_,_,_,e,g,_]:=q;ext e;apply#[_,g]
 |met f y=>apply#[_,(show h.get? a=some _ from q)]
 |ext φ=>apply q.2.1
def U9(h:Heap)(H:Hp)(nw:Addr->Prop)(e:Addr):Option Addr->Prop
 |none=>True
 |some n=>∃oe dx t,h.get? e=some oe/\oe.dict=some dx/\h.Ns1 dx (Gw n t)/\H dx=none/\nw dx
def lB(h:Heap)(H:Hp)(nw:Addr->Prop)(e:Addr)(aS:Option Addr):Prop:=(∃oe,h.get? e=some oe/\nM oe=some .none)/\U9 h H nw e aS
def lB.keep(x:lB h H nw e aS)(kd:Kd h h')(he:∃o,h'.get? e=some o)(st:∀b o,h.get? b=some o->(∀vs,o.data≠.fields vs)->∃sl,h'.get? b=some { o with slots:=sl })(hn:∀a,nw a->Ga a):lB h' H Ga e aS:=by
 let#[#[o0,g1,g2],x]:=x;let#[zV,he]:=he;refine#[#[zV,he,(kd.at g1 he).2.trans g2],?_];cases aS with
 |none=>trivial
 |some n=>
  let#[oe,dx,t,h1,h2,#[o,es,ep,q1,q2,q3],h4,h5]:=x;let#[sl,q4]:=st dx o q1 λvs z=>by rw[q2] at z;ext z
  apply#[zV,dx,t,he,(kd.at h1 he).1.trans h2,#[_,es,ep,q4,q2,q3],h4,hn dx h5]
def lB.imp(x:lB h H nw e aS)(hn:∀a,nw a->Ga a):lB h H Ga e aS:=by
 let#[g,x]:=x;refine#[g,?_];cases aS with
 |none=>trivial
 |some n=>
  let#[oe,dx,t,h1,h2,h3,h4,h5]:=x;apply#[oe,dx,t,h1,h2,h3,h4,hn dx h5]
structure QL(h:Heap)(H:Hp)(h0:Heap)(e:Addr)(cls:Value)(aS:Option Addr):Prop where
 py:lB h H (λa=>h0.get? a=none) e aS
 nw:h0.get? e=none
 fr:H e=none
 ob:∃oe vs a0 T oT ts,h.get? e=some oe/\oe.cls=cls/\vs[0]? = some a0/\oe.data=.fields vs/\vs[1]? = some (.ref T)/\T≠e/\h0.get? T=none/\H T=none/\h.get? T=some oT/\oT.data=.fields ts/\ts[3]? = some .none
structure SI(h:Heap)(H:Hp)(h0:Heap)(e:Addr)(cls:Value)(aS:Option Addr):Prop where
 py:lB h H (λa=>h0.get? a=none) e aS
 nw:h0.get? e=none
 fr:H e=none
 ob:∃oe vs a0,h.get? e=some oe/\oe.cls=cls/\vs[0]? = some a0/\oe.data=.fields vs/\vs[1]? = some .none
structure XX(h:Heap)(H:Hp)(h0:Heap)(L e:Addr)(cls:Value)(aS:Option Addr):Prop where
 py:lB h H (λa=>h0.get? a=none) e aS
 nw:h0.get? e=none
 fr:H e=none
 ob:∃oe vs a0 T oT ts,h.get? e=some oe/\oe.cls=cls/\vs[0]? = some a0/\oe.data=.fields vs/\vs[1]? = some (.ref T)/\T≠e/\h0.get? T=none/\H T=none/\h.get? T=some oT/\oT.data=.fields ts/\ts[3]? = some (rawInt L)
def Pd(h:Heap)(H:Hp)(h0:Heap)(L e:Addr)(cls:Value)(aS:Option Addr):Prop:=SI h H h0 e cls aS\/QL h H h0 e cls aS\/XX h H h0 L e cls aS
def iP(P:Program)(w:World):qE:=λouter H s E e s'=>∃a H' cls aS,e=.ref a/\s'.os=s.os/\AllBare s'.gens/\Un (aY outer) [] H H' s.heap s'.heap/\c9 P w H' s'.heap/\QL s'.heap H' s.heap a cls aS/\E cls aS H'
def Un.dead(u:Un fs [] H H' h h')(n:h'.get? a=none):h.get? a=none:=by
 cases q:h.get? a with
 |none=>rfl
 |some o=>
  let#[o',e]:=u.there a o q (by simp);rw[n] at e;ext e
def Ow{K:Fr}
  (I:Inv (g_ (iP P w) P w K mg base N qual scope f cd A outer s0 H0 E) af U H s) (fl:Pd s.heap H s0.heap (g_ (iP P w) P w K mg base N qual scope f cd A outer s0 H0 E).env.locals e cls aS) (hE:E cls aS H) :
  (g_ (iP P w) P w K mg base N qual scope f cd A outer s0 H0 E).xe (.ref e) s:=by
 generalize hX:g_ (iP P w) P w K mg base N qual scope f cd A outer s0 H0 E=X at I fl ⊢;have hxe:X.xe=λe s'=>wpAny (model P w) X.A (leaving X.env e) (λ_ h_=>iP P w outer H0 s0 E e h_) (λe' h_=>iP P w outer H0 s0 E e' h_) s':=by rw[<- hX];rfl
 have eE:X.stack=X.env::outer:=by rw[<- hX];rfl
 have pZ:X.A.frames=some (X.env::outer):=by rw[<- eE];apply I.ok.frames
 have hf:X.env.frame=some X.env.locals:=by rw[<- hX];rfl
 have hl:=I.stack;rw[eE] at hl;have u:Un (aY outer) [] H0 H s0.heap s.heap:=by
  have:=I.base;rw[<- hX] at this;apply this
 have hos:s.os=s0.os:=by
  have:=I.os;rw[<- hX] at this;apply this
 have aG:c9 P w H s.heap:=by
  have:=I.aG;rw[<- hX] at this;apply this
 have free:=I.vj;rw[eE] at free;have lf:∀b,b∈aY (X.env::outer)->(∃o,s.heap.get? b=some o/\∀vs,o.data≠.fields vs):=λb m=>(hl.mem m).2
 have Cb:=fl.elim (·.nw) λz=>z.elim (·.nw) (·.nw)
 have A4:=fl.elim (·.fr) λz=>z.elim (·.fr) (·.fr)
 have fpy:=fl.elim (·.py) λz=>z.elim (·.py) (·.py)
 rw[hxe];dsimp only;have fin:∀(xs) (h'),(∀x∈xs,s0.heap.get? x=none/\H x=none)->(∃a0,Heap.LeftW (PySem.W.hideAll s.heap (aY (X.env::outer)++xs)) (X.env::outer) e cls a0 s.heap h')->e∈xs->Kd s.heap h'->iP P w outer H0 s0 E (.ref e) { s with heap:=h' }:=λxs h' jL hL IP kd=>by
  let#[a0,k1,k2,k3,k4]:=hL;have gH:∀b o,s.heap.get? b=some o->b∉aY (X.env::outer)->b∉xs->h'.get? b=some o:=λb o q n1 n2=>k1 b o (PySem.W.hideAll_get _ q λm=>(abC.mp m).elim n1 n2)
  have nx:∀b o,s0.heap.get? b=some o->b∉xs:=λb o q m=>by rw[(jL b m).1] at q;ext q
  have ad2:∀b o,s0.heap.get? b=some o->b≠X.env.locals:=λb o q z=>by
   have h1:=I.ok.above;have h2:X.cT=s0:=by rw[<- hX];rfl
   rw[h2,<- z] at h1;apply absurd (abh q) (Nat.not_lt.mpr h1)
  have nfr:∀b o,s0.heap.get? b=some o->b∉aY outer->b∉aY (X.env::outer):=λb o q n m=>by
   have m:b∈(X.env::outer).filterMap (·.frame):=m;rw[afi,hf] at m;apply(aaO.mp m).elim (ad2 b o q) n
  have sub:∀b,b∈aY outer->b∈aY (X.env::outer):=λb m=>by
   show b∈(X.env::outer).filterMap (·.frame);rw[afi,hf];apply aab _ m
  refine#[e,H,cls,aS,rfl,hos,I.bare,#[λb o q n nf _=>?_,λb o q n m _=>?_,u.free,λb o q _=>?_,u.jw,u.jh,u.jU],aG.tracked λb v o hb q=>?_,#[fpy.keep kd (by let#[oe,vs,T,oT,ts,r1,_]:=k3;apply#[oe,r1]) k4 λ_ z=>z,Cb,A4,?_],hE]
  .exact gH b o (u.keep b o q n nf (by simp)) (nfr b o q nf) (nx b o q)
  .let#[sl,q2]:=u.slot b o q n m (by simp);let#[o2,q3,q4]:=lf b (sub b m);rw[q2] at q3;ext q3;let#[qT,q5]:=k4 b _ q2 q4;apply#[qT,q5]
  .let#[o',q2]:=u.there b o q (by simp)
   by_cases m:b∈aY (X.env::outer)
   .let#[o2,q3,q4]:=lf b m;rw[q2] at q3;ext q3;let#[qT,q5]:=k4 b _ q2 q4;apply#[_,q5]
   .exact#[o',gH b o' q2 m (nx b o q)]
  .refine gH b v q (λm=>?_) λm=>?_
   .rw[free b m] at hb;ext hb
   .rw[(jL b m).2] at hb;ext hb
  .let#[oe,vs,T,oT,ts,r1,#[r2,r0],r3,r4,r5,r6,r7,r8,r9]:=k3;refine#[oe,vs,a0,T,oT,ts,r1,r2,r0,r3,r4,r6,?_,?_,r7,r8,r9]
   .cases q:s0.heap.get? T with
    |none=>rfl
    |some o=>
     exfalso
     let#[o',q2]:=u.there T o q (by simp)
     by_cases m:T∈aY (X.env::outer)
     .let#[o2,q3,q4]:=(k2.mem m).2;rw[r7] at q3;ext q3;apply q4 ts r8
     .have:=PySem.W.hideAll_get (aY (X.env::outer)++xs) q2 λz=>(abC.mp z).elim m (nx T o q)
      rw[r5] at this;ext this
   .cases q:H T with
    |none=>rfl
    |some o=>
     exfalso
     let#[v,q2]:=aG.alive q;have:=PySem.W.hideAll_get (aY (X.env::outer)++xs) q2 λz=>(abC.mp z).elim (λm=>by rw[free T m] at q;ext q) λm=>by rw[(jL T m).2] at q;ext q
     rw[r5] at this;ext this
 have hide:∀xs:List Addr,s.heap.FunFrames (PySem.W.hideAll s.heap (aY (X.env::outer)++xs)) (X.env::outer):=λxs=>PySem.W.funFrames_hide hl λzT he a ha=>aa4 _ (aif.mpr #[zT,he,ha])
 rcases fl with fl|fl|fl
 .let#[oe,vs,a0,h1,h2,h0,h3,h5]:=fl.ob;refine aeo (uD (Fv _ _) (wpAny_leaving_firstW (Q:=λ_ h_=>∃h',h_={ s with heap:=h' }/\Heap.LeftW (PySem.W.hideAll s.heap (aY (X.env::outer)++[e])) (X.env::outer) e oe.cls a0 s.heap h') (E:=λ_ _=>False) pZ (hide _) hf h1 (λb o q=>PySem.W.of_hideAll _ q) (PySem.W.hideAll_none _ (by simp)) h3 h5 h0 λh' hL=>#[h',rfl,hL])) (λ_ h_ #[#[h',eh,hL],kd]=>?_) λ_ _ z=>z.1.elim
  subst eh;rw[h2] at hL;apply fin [e] h' (λx m=>by rw[aav.mp m];apply#[Cb,A4]) #[a0,hL] (by simp) kd
 .let#[oe,vs,a0,T,oT,ts,h1,h2,h0,h3,t1,t2,t3,t4,t5,t6,t7]:=fl.ob;refine aeo (uD (Fv _ _) (wpAny_leaving_nextW (Q:=λ_ h_=>∃h',h_={ s with heap:=h' }/\Heap.LeftW (PySem.W.hideAll s.heap (aY (X.env::outer)++[e,T])) (X.env::outer) e cls a0 s.heap h') (E:=λ_ _=>False) pZ (hide _) hf #[oe,vs,T,oT,ts,h1,#[h2,h0],h3,t1,PySem.W.hideAll_none _ (by simp),t2,t5,t6,t7] (λb o q=>PySem.W.of_hideAll _ q) (PySem.W.hideAll_none _ (by simp)) λh' hL=>#[h',rfl,hL])) (λ_ h_ #[#[h',eh,hL],kd]=>?_) λ_ _ z=>z.1.elim
  subst eh;refine fin [e,T] h' (λx m=>?_) #[a0,hL] (by simp) kd;rcases aaO.mp m with z|z
  .rw[z];apply#[Cb,A4]
  .rw[aav.mp z];apply#[t3,t4]
 .let#[oe,vs,a0,T,oT,ts,h1,h2,h0,h3,t1,t2,t3,t4,t5,t6,t7]:=fl.ob;have au:Heap.HeldW (PySem.W.hideAll s.heap (aY (X.env::outer)++[e,T])) (X.env::outer) e cls a0 X.env.locals s.heap:=#[λb o q=>PySem.W.of_hideAll _ q,PySem.W.hideAll_none _ (by simp),hide _,oe,vs,T,oT,ts,h1,#[h2,h0],h3,t1,PySem.W.hideAll_none _ (by simp),t2,t5,t6,t7]
  have key:wpAny (model P w) X.A (leaving X.env (.ref e)) (λ_ h_=>∃h',h_={ s with heap:=h' }/\Heap.LeftW (PySem.W.hideAll s.heap (aY (X.env::outer)++[e,T])) (X.env::outer) e cls a0 s.heap h') (λ_ _=>False) s:=by
   unfold leaving;refine aaN (wpAny_noteFrame_againW hf au.2.2.2 ?_);refine wpAny_landsW au ?_
   rintro h' ⟨k1,k2,k3,k4⟩ up
   apply#[h',rfl,k1,k3,k4,up]
  refine aeo (uD (Fv _ _) key) (?_) λ_ _ z=>z.1.elim
  rintro _ h_ ⟨⟨h',eh,hL⟩,kd⟩
  subst eh;refine fin [e,T] h' (λx m=>?_) #[a0,hL] (by simp) kd;rcases aaO.mp m with z|z
  .rw[z];apply#[Cb,A4]
  .rw[aav.mp z];apply#[t3,t4]
abbrev XS:=Value->Option Addr->St->Hp->Prop
def Fe(X:Cx)(E:XS):Prop:=∀(af) (U) (H) (s) (e) (cls) (aS),Inv X af U H s->SI s.heap H X.cT.heap e cls aS->E cls aS U H->X.xe (.ref e) s
def aaa{K:Fr}:
  Fe (g_ (iP P w) P w K mg base N qual scope f cd A outer s0 H0 E) (λcls aS _ H=>E cls aS H):=λaf U H s e cls aS I fl hE=>Ow I (.inl fl) hE
inductive sF(K:Fr)(C N:Addr)(bm:List Value)(newId:String):Prop
 |mk:K.lookup C=some (excClassObj nm q C N bs bm hdct sn sub ab col dd k0 k1 k2 k3 k5 newId)->sF K C N bm newId
structure Bp(K:Fr)(C:Addr):Prop where
 ex:∃B newId Mj Lc bm N,ExcBaseFacts B newId Mj Lc/\sF K C N bm newId/\PySem.W.nsOkIn K N=true/\PySem.W.nsIn K N "__init__"=some none/\PySem.W.tailIn K Lc bm=true
def WQ(C:Addr)(E:XS)(t:TA):TS:=λ_ U H=>t U H λvs H1=>vs.length<=sizeLine/\E (.ref C) none U H1
def ad0(hc:X.calm=true)(hx:X.ex=[])(th:Fe X E)(cl:Bp X.K C)(hg:Gl X x)(hm:X.mg x=some (.ref C))(ha:PA X (e::es) t)(eU:(x==("__debug__":Str))=false:=by decide)
  (he:starEach (e::es) X.env=(false,eval e X.env)::starEach es X.env:=by rfl) (hpl:(backTo gR (starEach es X.env)).any (·.1)=false:=by rfl) :
  PS X (.Raise (some (.Call (.Name x np) (e::es) [] gR)) none pos) (WQ C E t):=by
 intro af s U H D I h;obtain⟨B,newId,Mj,Lc,bm,N,FB,@⟨nm,q,bs,hdct,sn,sub,ab,col,dd,k0,k1,k2,k3,k5,hl⟩,n1,n2,n3⟩:=cl.ex;have hh:=I.ok.hd hc;have KI:=I.ok.mod.rO;have hC:=KI _ _ hl;have hN:=Heap.Ns.of_isNs (PySem.W.isNs_of_in KI n1);have hni:=PySem.W.nsMap_none_of_in KI n1 n2;have T:=PySem.W.tail_of_in KI n3;refine wpAny_Raise_call_subT (nm:=nm) (q:=q) (N:=N) (bs:=bs) (hdct:=hdct) (sn:=sn) (sub:=sub) (ab:=ab) (col:=col) (dd:=dd) (k0:=k0) (k1:=k1) (k2:=k2) (k3:=k3) (k5:=k5) FB (T.hasType FB.hasBase) hh (by rw[he];show(false||(backTo gR (starEach es X.env)).any (·.1))=false;rw[hpl];rfl) hni (qX I hg hm #[rfl,?_] eU);have key:=ha gR af s U H _ I h;rw[he] at key ⊢;refine Calls.evalArgs_plain (aeo key (λus s1 hq=>?_) λ_ _ y=>y);let#[vs,H1,I1,r,hz,q1]:=hq;refine#[rfl,by rw[<- r.length];apply hz,I1.bk _ _ hC,hN.keeps I1.bk,T.keeps I1.bk,λh' e' pC=>?_];have I2:Inv X af U H1 { s1 with heap:=h' }:=I1.kept pC.keeps;refine th af U H1 _ e' (.ref C) none I2 #[#[?_,trivial],?_,?_,?_] q1
 .let#[tp,z,_,_]:=pC.there;apply#[_,z,rfl]
 .have u:=I1.base;rw[hx] at u;apply u.dead pC.new
 .cases qq:H1 e' with
  |none=>rfl
  |some o=>
   let#[v,z]:=I1.aG.alive qq;rw[pC.new] at z;ext z
 .let#[tp,z,_,_]:=pC.there;apply#[_,_,_,z,rfl,rfl,rfl,rfl]
theorem Inv.slots(I:Inv X af U H s)(xs:List Addr)(gH:∀b o,s.heap.get? b=some o->b∉aY X.stack->b∉xs->h'.get? b=some o)(slot:∀b o,s.heap.get? b=some o->b∈aY X.stack->∃sl,h'.get? b=some { o with slots:=sl })
  (jL:∀x∈xs,X.cT.heap.get? x=none/\H x=none/\x≠X.env.locals/\(∀y c,X.env.cells.lookup y=some c->c≠x)/\∀p∈X.pn++af,p.1≠x):Inv X af U H { s with heap:=h' }:=by
 have any:∀b o,s.heap.get? b=some o->b∉xs->∃sl,h'.get? b=some { o with slots:=sl }:=λb o q n=>by
  by_cases m:b∈aY X.stack
  .exact slot b o q m
  .exact#[o.slots,gH b o q m n]
 have out:∀b,b≠X.env.locals->b∉X.fs->b∉aY X.stack:=λb n1 n2 m=>(aaO.mp (I.BV b m)).elim n1 n2
 have Ci:∀b o,X.cT.heap.get? b=some o->b≠X.env.locals:=λb o e=>acV (ac9 (abh e) I.ok.above)
 have HL:∀b o,X.cT.heap.get? b=some o->b∉xs:=λb o e m=>by rw[(jL b m).1] at e;ext e
 have cellK:∀x c,X.env.cells.lookup x=some c->∀v,s.heap.IsCell c v->h'.IsCell c v:=λx c e v #[o,ho,hd]=>by
  let#[sl,q]:=any c o ho λz=>(jL c z).2.2.2.1 x c e rfl
  apply#[_,q,hd]
 refine#[I.ok,I.os,I.bare,#[λb o e n hb hx=>?_,λb o e n hb hx=>?_,I.base.free,λb o e hx=>?_,I.base.jw,I.base.jh,I.base.jU],?_,λx c e=>?_,I.free,I.gU,λp hp=>?_,I.aG.tracked λb v o hb q=>?_,I.len,I.hq]
 .exact gH b o (I.base.keep b o e n hb hx) (out b (Ci b o e) hb) (HL b o e)
 .let#[sl,e1]:=I.base.slot b o e n hb hx;let#[qT,e2]:=any b _ e1 (HL b o e);apply#[qT,e2]
 .let#[o',e1]:=I.base.there b o e hx;let#[sl,e2]:=any b o' e1 (HL b o e);apply#[_,e2]
 .let#[m,#[o,es,ep,ho,r],hl]:=I.loc;let#[sl,hL]:=any _ o ho λz=>(jL _ z).2.2.1 rfl
  refine#[m,#[_,es,ep,hL,r],λi x v e1 e2 e3=>?_];let#[u,rr,l]:=hl i x v e1 e2 e3;refine#[u,rr,?_];rcases l with l|⟨k,c,e,z⟩
  .exact .inl l
  .exact .inr #[k,c,e,cellK x c e _ z]
 .let#[v,z]:=I.cell x c e;apply#[v,cellK x c e v z]
 .let#[e,n,ne,nf,d]:=I.pin p hp;apply#[gH p.1 p.2 e (out p.1 ne nf) λz=>(jL p.1 z).2.2.2.2 p hp rfl,n,ne,nf,d]
 .refine gH b v q (λm=>?_) λm=>?_
  .rw[I.vj b m] at hb;ext hb
  .rw[(jL b m).2.1] at hb;ext hb
def Inv.apart(I:Inv X af U H s)(hx:X.ex=[])(n:s.heap.get? x=none):X.cT.heap.get? x=none/\x≠X.env.locals/\(∀y c,X.env.cells.lookup y=some c->c≠x)/\∀p∈X.pn++af,p.1≠x:=by
 refine#[?_,λz=>?_,λy c e z=>?_,λp hp z=>?_]
 .have u:=I.base;rw[hx] at u;apply u.dead n
 .let#[m,#[o,_,_,ho,_],_]:=I.loc;rw[<- z,n] at ho;ext ho
 .let#[v,o,ho,_]:=I.cell y c e;rw[z,n] at ho;ext ho
 .have:=(I.pin p hp).1;rw[z,n] at this;ext this
abbrev Apart(X:Cx)(af:List (Addr×Obj))(a:Addr):Prop:=X.cT.heap.get? a=none/\a≠X.env.locals/\(∀y c,X.env.cells.lookup y=some c->c≠a)/\∀p∈X.pn++af,p.1≠a
structure gz(X:Cx)(af:List (Addr×Obj))(U:St)(H:Hp)(e:Addr)(cls:Value)(aS:Option Addr)(s:Shared):Prop where
 py:lB s.heap H (Apart X af) e aS
 inv:Inv X af U H s
 fr:H e=none
 ap:X.cT.heap.get? e=none/\e≠X.env.locals/\(∀y c,X.env.cells.lookup y=some c->c≠e)/\∀p∈X.pn++af,p.1≠e
 ob:∃oe vs a0 T oT ts,s.heap.get? e=some oe/\oe.cls=cls/\vs[0]? = some a0/\oe.data=.fields vs/\vs[1]? = some (.ref T)/\T≠e/\H T=none/\(X.cT.heap.get? T=none/\T≠X.env.locals/\(∀y c,X.env.cells.lookup y=some c->c≠T)/\∀p∈X.pn++af,p.1≠T)/\s.heap.get? T=some oT/\oT.data=.fields ts/\(ts[3]? = some .none\/ts[3]? = some (rawInt X.env.locals))
def landAt(I:Inv X af U H s)(hx:X.ex=[])(fr:H e=none)(ap:X.cT.heap.get? e=none/\e≠X.env.locals/\(∀y c,X.env.cells.lookup y=some c->c≠e)/\∀p∈X.pn++af,p.1≠e)(IP:e∈xs)
  (jL:∀x∈xs,H x=none/\X.cT.heap.get? x=none/\x≠X.env.locals/\(∀y c,X.env.cells.lookup y=some c->c≠x)/\∀p∈X.pn++af,p.1≠x)
  (k1:(PySem.W.hideAll s.heap (aY X.stack++xs)).StaysIn h') (k3:h'.FunFrames (PySem.W.hideAll s.heap (aY X.stack++xs)) X.stack) (tr:h'.TracedAtW (PySem.W.hideAll s.heap (aY X.stack++xs)) e cls a0 fl) (Xm:fl=.none\/fl=rawInt X.env.locals) (up:s.heap.UpToSlots h') (py:lB s.heap H (Apart X af) e aS) (kd:Kd s.heap h'):gz X af U H e cls aS { s with heap:=h' }:=by
 let#[oe,vs,T,oT,ts,r1,#[r2,r0],r3,r4,r5,r6,r7,r8,r9]:=tr;have gH:∀b o,s.heap.get? b=some o->b∉aY X.stack->b∉xs->h'.get? b=some o:=λb o q n1 n2=>k1 b o (PySem.W.hideAll_get _ q λm=>(abC.mp m).elim n1 n2)
 have slot:∀b o,s.heap.get? b=some o->b∈aY X.stack->∃sl,h'.get? b=some { o with slots:=sl }:=λb o q m=>by
  let#[_,o2,q3,q4]:=I.stack.mem m;rw[q] at q3;ext q3;apply up b o q q4
 have J:=I.slots xs gH slot λx m=>let#[a,b,c]:=jL x m;#[b,a,c]
 have tH:H T=none:=by
  cases q:H T with
  |none=>rfl
  |some o=>
   exfalso
   let#[v,q2]:=I.aG.alive q;have:=PySem.W.hideAll_get (aY X.stack++xs) q2 λz=>(abC.mp z).elim (λm=>by rw[I.vj T m] at q;ext q) λm=>by rw[(jL T m).1] at q;ext q
   rw[r5] at this;ext this
 have tF:T∉aY X.stack:=λm=>by
  let#[_,o2,q3,q4]:=k3.mem m;rw[r7] at q3;ext q3;apply q4 ts r8
 have tA:X.cT.heap.get? T=none/\T≠X.env.locals/\(∀y c,X.env.cells.lookup y=some c->c≠T)/\∀p∈X.pn++af,p.1≠T:=by
  by_cases m:T∈xs
  .exact(jL T m).2
  .have dead:s.heap.get? T=none:=by
    cases q:s.heap.get? T with
    |none=>rfl
    |some o=>
     have:=PySem.W.hideAll_get (aY X.stack++xs) q λz=>(abC.mp z).elim tF m
     rw[r5] at this;ext this
   refine#[?_,λz=>?_,λy c e z=>?_,λp hp z=>?_]
   .cases q:X.cT.heap.get? T with
    |none=>rfl
    |some o=>
     exfalso
     let#[o',q2]:=I.base.there T o q (by rw[hx];simp);rw[dead] at q2;ext q2
   .let#[m,#[o,_,_,ho,_],_]:=I.loc;rw[<- z,dead] at ho;ext ho
   .let#[v,o,ho,_]:=I.cell y c e;rw[z,dead] at ho;ext ho
   .have:=(I.pin p hp).1;rw[z,dead] at this;ext this
 apply#[py.keep kd #[oe,r1] up λ_ z=>z,J,fr,ap,oe,vs,a0,T,oT,ts,r1,r2,r0,r3,r4,r6,tH,tA,r7,r8,Xm.elim (λz=>.inl (z ▸ r9)) λz=>.inr (z ▸ r9)]
def land(I:Inv X af U H s)(hx:X.ex=[])(fr:H e=none)(ap:Apart X af e)(IP:e∈xs)(jL:∀x∈xs,H x=none/\Apart X af x)
  (fl:Heap.FlyingW (PySem.W.hideAll s.heap (aY X.stack++xs)) X.stack e cls a0 h') (up:s.heap.UpToSlots h') (py:lB s.heap H (Apart X af) e aS) (kd:Kd s.heap h'):gz X af U H e cls aS { s with heap:=h' }:=
 landAt I hx fr ap IP jL fl.1 fl.2.2.1 fl.2.2.2 (.inl rfl) up py kd
def gz.ZC{R:Shared->Prop}(L:gz X af U H e cls aS s)(hx:X.ex=[])(eE:X.stack=X.env::X.outer)(hf:X.env.frame=some X.env.locals)(k:∀s3,gz X af U H e cls aS s3->R s3):
  wpAny M X.A (noteFrame (.ref e) X.env) (λ_ s2=>wpAny M X.A (setFlight (.ref e) none) (λ_ s3=>R s3) E' s2) E' s:=by
 let#[oe,vs,a0,T,oT,ts,h1,h2,h0,h3,t1,t2,tH,tA,t5,t6,t7]:=L.ob;have I:=L.inv;have pZ:X.A.frames=some (X.env::X.outer):=by rw[<- eE];apply I.ok.frames
 have hF:=PySem.W.funFrames_hide (as:=aY X.stack++[e,T]) I.stack λzT he a ha=>aa4 _ (aif.mpr #[zT,he,ha])
 have fin:∀h4,Heap.HeldW (PySem.W.hideAll s.heap (aY X.stack++[e,T])) (X.env::X.outer) e cls a0 X.env.locals h4->s.heap.UpToSlots h4->Kd s.heap h4->wpAny M X.A (setFlight (.ref e) none) (λ_ s3=>R s3) E' { s with heap:=h4 }:=λh4 au yP Gh=>by
  refine aeo (uD (JY _ _) (wpAny_landsW (Q:=λ_ s5=>∃h5,s5={ s with heap:=h5 }/\Heap.FlyingW (PySem.W.hideAll s.heap (aY X.stack++[e,T])) (X.env::X.outer) e cls a0 h5/\h4.UpToSlots h5) (E:=λ_ _=>False) au λh5 A1 HH=>#[h5,rfl,A1,HH])) (λ_ s5 #[#[h5,e5,A1,HH],YC]=>?_) λ_ _ z=>z.1.elim
  subst e5;refine k _ (show gz X af U H e cls aS { s with heap:=h5 } from land (a0:=a0) (xs:=[e,T]) I hx L.fr L.ap (by simp) (λx m=>?_) ?_ (yP.trans HH) L.py (Gh.trans YC))
  .rcases aaO.mp m with z|z
   .rw[z];apply#[L.fr,L.ap]
   .rw[aav.mp z];apply#[tH,tA]
  .rw[<- eE] at A1;apply A1
 rcases t7 with t7|t7
 .have F:Heap.FlyingW (PySem.W.hideAll s.heap (aY X.stack++[e,T])) (X.env::X.outer) e cls a0 s.heap:=by
   rw[<- eE];apply#[λb o q=>PySem.W.of_hideAll _ q,PySem.W.hideAll_none _ (by simp),hF,oe,vs,T,oT,ts,h1,#[h2,h0],h3,t1,PySem.W.hideAll_none _ (by simp),t2,t5,t6,t7]
  refine aeo (uD (LM _ _) (wpAny_looks_onW (Q:=λ_ s4=>∃h4,s4={ s with heap:=h4 }/\Heap.HeldW (PySem.W.hideAll s.heap (aY X.stack++[e,T])) (X.env::X.outer) e cls a0 X.env.locals h4/\s.heap.UpToSlots h4) (E:=λ_ _=>False) pZ hf F λh4 au yP=>#[h4,rfl,au,yP])) (λ_ s4 #[#[h4,e4,au,yP],Gh]=>?_) λ_ _ z=>z.1.elim
  subst e4;apply fin h4 au yP Gh
 .have F:Heap.HeldW (PySem.W.hideAll s.heap (aY X.stack++[e,T])) (X.env::X.outer) e cls a0 X.env.locals s.heap:=by
   rw[<- eE];apply#[λb o q=>PySem.W.of_hideAll _ q,PySem.W.hideAll_none _ (by simp),hF,oe,vs,T,oT,ts,h1,#[h2,h0],h3,t1,PySem.W.hideAll_none _ (by simp),t2,t5,t6,t7]
  apply wpAny_noteFrame_againW hf F.2.2.2 (fin s.heap F (λb o hb _=>#[o.slots,hb]) (Kd.refl _))
def gz.Wz(L:gz X af U H e cls aS s):Pd s.heap H X.cT.heap X.env.locals e cls aS:=by
 let#[oe,vs,a0,T,oT,ts,h1,h2,h0,h3,t1,t2,tH,tA,t5,t6,t7]:=L.ob;rcases t7 with t7|t7
 .exact .inr (.inl #[L.py.imp λ_ z=>z.1,L.ap.1,L.fr,oe,vs,a0,T,oT,ts,h1,h2,h0,h3,t1,t2,tA.1,tH,t5,t6,t7])
 .exact .inr (.inr #[L.py.imp λ_ z=>z.1,L.ap.1,L.fr,oe,vs,a0,T,oT,ts,h1,h2,h0,h3,t1,t2,tA.1,tH,t5,t6,t7])
def sW(X:Cx)(E:XS):Prop:=∀(af) (U) (H) (s) (e) (cls) (aS),gz X af U H e cls aS s->E cls aS U H->X.xe (.ref e) s
def aaJ{K:Fr}:
  sW (g_ (iP P w) P w K mg base N qual scope f cd A outer s0 H0 E) (λcls aS _ H=>E cls aS H):=λaf U H s e cls aS L hE=>Ow L.inv L.Wz hE
def aaw{os:OsState}
  (hC:h.get? C=some (excClassObj nm q C N bs bm hdct sn sub ab col dd k0 k1 k2 k3 k5 newId)) (hD:h.get? D=some (excClassObj nm' q' D N' bs' r_ ait sn' aib ab' ais pQ j0 j1 j2 j3 j5 air)) (he:h.get? e=some oe) (wM:oe.cls=.ref C)
  (hb:r_.contains (.type "BaseException")=true) (hq:Q ((Value.ref C::bm).contains (.ref D)) #[h,g,d,t,os]):wpAny M A (excMatches (.ref e) (.ref D)) Q E #[h,g,d,t,os]:=by
 have hcB:(Value.ref D::r_).contains (.type "BaseException")=true:=by rw[List.contains_cons,hb,Bool.or_true]
 have f:=tc_notTuple;unfold excMatches
 repeat (first|(with_reducible refine wpAny_loadPart_at he ?_;rw[wM])|with_reducible refine wpAny_loadPart_at hD ?_|(with_reducible refine wpAny_isSubtype_exc hD ?_;rw[hcB])|(with_reducible refine wpAny_isSubtype_exc hC ?_)|wp_step)
 cases hz:(Value.ref C::bm).contains (.ref D)<;>(rw[hz] at hq;wp_walk;apply hq)
def gz.again(L:gz X af U H e cls aS s)(hx:X.ex=[])(k:∀s',gz X af U H e cls aS s'->Q () s'):wpAny M A' (setFlight (.ref e) none) Q E' s:=by
 let#[oe,vs,a0,T,oT,ts,h1,h2,h0,h3,t1,t2,tH,tA,t5,t6,t7]:=L.ob;obtain⟨fl,t7⟩:∃fl,ts[3]? = some fl:=t7.elim (λz=>#[_,z]) λz=>#[_,z]
 have I:=L.inv;refine aeo (uD (JY _ _) (wpAny_setFlight_noneW (Q:=λ_ s'=>∃h',s'={ s with heap:=h' }/\(PySem.W.hideAll s.heap (aY X.stack++[e,T])).StaysIn h'/\h'.FunFrames (PySem.W.hideAll s.heap (aY X.stack++[e,T])) X.stack/\h'.TracedW (PySem.W.hideAll s.heap (aY X.stack++[e,T])) e cls a0/\(∀b o,s.heap.get? b=some o->(∀vs,o.data≠.fields vs)->h'.get? b=some o)) (E:=λ_ _=>False) (λb o q=>PySem.W.of_hideAll _ q)
  (PySem.W.funFrames_hide I.stack λzT he a ha=>aa4 _ (aif.mpr #[zT,he,ha])) #[oe,vs,T,oT,ts,h1,#[h2,h0],h3,t1,PySem.W.hideAll_none _ (by simp),t2,t5,t6,t7] λh' k1 k2 k3 k4=>#[h',rfl,k1,k2,k3,k4])) (λ_ s' #[#[h',eh,k1,k2,k3,k4],kd]=>?_) λ_ _ z=>z.1.elim
 subst eh;refine k _ (land I hx L.fr L.ap (by simp) (λx m=>?_) #[k1,PySem.W.hideAll_none _ (by simp),k2,k3] (λb o q n=>#[o.slots,k4 b o q n]) L.py kd);rcases aaO.mp m with z|z
 .rw[z];apply#[L.fr,L.ap]
 .rw[aav.mp z];apply#[tH,tA]
def Al(X:Cx)(af:List (Addr×Obj))(U:St)(E:XK)(e:Value)(s':Shared):Prop:=∃a cls aS H',e=.ref a/\gz X af U H' a cls aS s'/\E cls aS H'
abbrev TX:=St->Hp->VK->XK->Prop
def PX(X:Cx)(e:Expr)(t:TX):Prop:=
 ∀(af) (s) (U) (H) (Q) (E),Inv X af U H s->t U H Q E->wpAny (model X.prog X.w) X.A (eval e X.env) (EP X af U Q) (Al X af U E) s
def ZA(I:Inv X af U H s)(hx:X.ex=[])(h:iP X.prog X.w X.stack H s E e s'):Al X af U E e s':=by
 let#[a,H',cls,aS,rfl,os,bare,un,aG,fl,hE]:=h;have I':=I.TQ os un aG bare λb z=>absurd z (by simp)
 let#[oe,vs,a0,T,oT,ts,h1,h2,h0,h3,t1,t2,t3,t4,t5,t6,t7]:=fl.ob;apply#[a,cls,aS,H',rfl,#[fl.py.imp λ_ z=>I.apart hx z,I',fl.fr,I.apart hx fl.nw,oe,vs,a0,T,oT,ts,h1,h2,h0,h3,t1,t2,t4,I.apart hx t3,t5,t6,.inl t7],hE]
def agA(F:b_ X.prog X.w X.K X.mg X.base (iP X.prog X.w) k f fd ps sp cm)(hr:bx k X.A cm)(hb:Binds X.K fd ps ds)(hd:aR fE ds)(hx:X.ex=[])
  (I:Inv X af U H s) (r:aR vs us) (h:sp (vs++fE) H Q E):wpAny (model X.prog X.w) X.A (call (.ref f) us) (EP X af U Q) (Al X af U E) s:=by
 have r2:=r.append hd;have hl:(us++ds).length=ps.length:=by rw[<- r2.length];apply F.len _ _ _ _ h
 refine wpAny_call (aiL (F.run X.A X.stack s H #[us,[]] (us++ds) (vs++fE) Q E hr I.FQ (hb s us I.cU hl) r2 h) λr s' hq=>?_);cases r with
 |error e=>apply ZA I hx hq
 |ok fl=>
  cases fl with
  |ret u=>apply I.after hq
  |next=>apply False.elim hq
  |brk=>apply False.elim hq
  |cont=>apply False.elim hq
def agq(sp:Sp)(fE:List V)(t:TA):TX:=λU H Q E=>t U H λvs H1=>sp (vs++fE) H1 Q E
def adD(ha:PA X.i7 es t)(I:Inv X af U H s)(h:t U H Q):
  wpAny (model X.prog X.w) X.A (spliced (backTo pos (starEach es X.env))) (AP X af U Q) E' s:=
 aeo (ha pos af s U H Q (I.k_ _) h) (λus s1 #[vs,H1,I1,q]=>#[vs,H1,I1.nX,q]) λ_ _ z=>False.elim z
def abn(F:b_ X.prog X.w X.K X.mg X.base (iP X.prog X.w) k f fd ps sp cm)(hr:bx k X.A cm)(hx:X.ex=[])(hg:Gl X x)(hm:X.mg x=some (.ref f))(hk:PySem.W.keepIn X.K (.ref f)=true)(hb:Binds X.K fd ps ds)(hd:aR fE ds)
  (ha:PA X.i7 (e::es) t) (eU:(x==("__debug__":Str))=false:=by decide) (he:starEach (e::es) X.env=(false,eval e X.env)::starEach es X.env:=by rfl) (hpl:(backTo pos (starEach es X.env)).any (·.1)=false:=by rfl) :
  PX X (.Call (.Name x p) (e::es) [] pos) (agq sp fE t):=by
 intro af s U H Q E I h;refine agj (qX I hg hm ?_ eU);apply PySem.W.callWith_K I.ok.mod.rO hk (y9 (adD ha I h) λus s1 vs H1 I1 r q=>#[I1.cU,agA F hr hb hd hx I1 r q]) he hpl
def Up(th:sW X ES)(h:Al X af U (λcls aS H=>ES cls aS U H) v s):X.xe v s:=by
 let#[a,cls,aS,H',rfl,L,q]:=h;apply th af U H' s a cls aS L q
def aeE(ES:XS)(t:TX):TS:=λD U H=>t U H (λ_ H1=>D.nx U H1) λcls aS H'=>ES cls aS U H'
def Qc(th:sW X ES)(he:PX X e t)(hs:swapsWith e none pos.line X.env=pure false:=by rfl):PS X (.Expr e pos) (aeE ES t):=by
 intro af s U H D I h;refine wpAny_Expr_any (aeo (he af s U H _ _ I h) (?_) λ_ _ z=>Up th z) I.quiet hs
 rintro v s1 ⟨x,H1,I1,r1,q1⟩
 apply#[U,H1,I1,q1]
def Vf(ES:XS)(t:TX):TS:=λD U H=>t U H D.rt λcls aS H'=>ES cls aS U H'
def QB(th:sW X ES)(he:PX X e t):PS X (.Return (some e) pos) (Vf ES t):=by
 intro af s U H D I h;refine wpAny_Return_some (aeo (he af s U H _ _ I h) (?_) λ_ _ z=>Up th z)
 rintro v s1 ⟨x,H1,I1,r1,q1⟩
 apply#[x,U,H1,I1,r1,q1]
abbrev Cx.kF(X:Cx)(af:List (Addr×Obj))(R:XS):Cx:={ X with pn:=X.pn++af,xe:=λe s'=>∃U H a cls aS,e=.ref a/\gz X af U H a cls aS s'/\R cls aS U H }
section
variable{X:Cx}
def Cx.Ok.kF(ok:X.Ok):(X.kF af R).Ok:=
 #[ok.mod,ok.kind,ok.glob,ok.blt,ok.above,ok.inj,ok.has,ok.pY,ok.hd,ok.frames,ok.qF,ok.tu,ok.bs,ok.jn,ok.pG,ok.o_,ok.jf,ok.lW]
def Cx.Ok.oS(ok:(X.kF af R).Ok):X.Ok:=
 #[ok.mod,ok.kind,ok.glob,ok.blt,ok.above,ok.inj,ok.has,ok.pY,ok.hd,ok.frames,ok.qF,ok.tu,ok.bs,ok.jn,ok.pG,ok.o_,ok.jf,ok.lW]
def Inv.kF(I:Inv X af U H s):Inv (X.kF af R) [] U H s:=#[I.ok.kF,I.os,I.bare,I.base,I.loc,I.cell,I.free,I.gU,λp hp=>I.pin p (by simpa using hp),I.aG,I.len,I.hq]
def Inv.oS(I:Inv (X.kF af R) wJ U H s):Inv X af U H s:=#[I.ok.oS,I.os,I.bare,I.base,I.loc,I.cell,I.free,I.gU,λp hp=>I.pin p (aa4 _ hp),I.aG,I.len,I.hq]
def gz.oS(L:gz (X.kF af R) wJ U H e cls aS s):gz X af U H e cls aS s:=by
 let#[py,I,fr,#[a1,a2,a3,a4],oe,vs,a0,T,oT,ts,h1,h2,h0,h3,t1,t2,tH,#[b1,b2,b3,b4],t5]:=L;apply#[py.imp λ_ z=>#[z.1,z.2.1,z.2.2.1,λp hp=>z.2.2.2 p (aa4 _ hp)],I.oS,fr,#[a1,a2,a3,λp hp=>a4 p (aa4 _ hp)],oe,vs,a0,T,oT,ts,h1,h2,h0,h3,t1,t2,tH,#[b1,b2,b3,λp hp=>b4 p (aa4 _ hp)],t5]
def Vr:sW (X.kF af R) R:=λwJ U H s e cls aS L q=>#[U,H,e,cls,aS,rfl,L.oS,q]
end
abbrev Cx.nq(X:Cx)(a:Addr):Cx:={ X with A:=X.A.mark (some (.ref a)),calm:=false,xe:=λ_ _=>False }
def Inv.nq(I:Inv X af U H s)(a:Addr)(hq:ug (X.A.mark (some (.ref a))) H):Inv (X.nq a) af U H s:=
 #[#[I.ok.mod,I.ok.kind,I.ok.glob,I.ok.blt,I.ok.above,I.ok.inj,I.ok.has,I.ok.pY,λz=>Bool.noConfusion z,I.ok.frames,I.ok.qF,I.ok.tu,I.ok.bs,I.ok.jn,I.ok.pG,I.ok.o_,I.ok.jf,I.ok.lW],I.os,I.bare,I.base,I.loc,I.cell,I.free,I.gU,I.pin,I.aG,I.len,#[hq,I.hq.ok,I.hq.lm]]
def Inv.aal(hc:X.calm=true)(I0:Inv X af U H s)(I:Inv (X.nq a) af aB H' s'):Inv X af aB H' s':=
 #[I0.ok,I.os,I.bare,I.base,I.loc,I.cell,I.free,I.gU,I.pin,I.aG,I.len,#[.inl (I0.ok.hd hc),I.hq.ok,I.hq.lm]]
def Inv.CT(I:Inv X af U H s)(fr:H e=none)(ap:Apart X af e)(ok:dJ X.prog X.w (upd H e u) s.heap e u):Inv X af U (upd H e u) s:=by
 let#[a1,a2,a3,a4]:=ap;have ne:∀{b} {o},H b=some o->b≠e:=λ{b o} q z=>by rw[z,fr] at q;ext q
 refine#[I.ok,I.os,I.bare,#[I.base.keep,I.base.slot,λb o q n hx=>?_,I.base.there,λb xs q=>?_,λb o u q=>?_,λb ps q=>?_],I.loc,I.cell,?_,λx c q=>?_,λp hp=>?_,λb o q=>?_,I.len,I.hq.mono (λb o u q=>by rw[aN (ne q)];apply q) λb t q=>by rw[aN (ne q)];apply q]
 .rw[aN λz=>by rw[z,a1] at q;ext q];apply I.base.free b o q n hx
 .have w:=I.base.jw b xs q;rw[aN (ne w)];apply w
 .have w:=I.base.jh b o u q;rw[aN (ne w)];apply w
 .let#[more,w]:=I.base.jU b ps q;apply#[more,by rw[aN (ne w)];apply w]
 .rw[aN λz=>a2 z.symm];apply I.free
 .rw[aN (a3 x c q)];apply I.gU x c q
 .let#[p1,p2,p3]:=I.pin p hp;apply#[p1,by rw[aN (a4 p hp)];apply p2,p3]
 .by_cases z:b=e
  .subst z;rw[bX] at q;ext q;apply ok
  .rw[aN z] at q;apply(I.aG b o q).gH (λ_ _ _ q=>q) (λc q=>by rw[aN (ne q)];apply q) λc xs q=>by rw[aN (ne q)];apply q
def rY(H H':Hp)(a:Addr)(cls:Value)(aS:Option Addr):Prop:=∃ob vs,ob.data=.fields vs/\vs[2]? = some .none/\match aS with
 |none=>H'=upd H a (v8 ob a cls none)
 |some n=>∃dx,dx≠a/\H dx=none/\H'=upd (upd H dx (GO dx n)) a (v8 ob a cls (some dx))
def gz.known(L:gz X af U H e cls aS s):∃H',rY H H' e cls aS/\Inv X af U H' s:=by
 let#[oe,vs,a0,T,oT,ts,h1,h2,h0,hd,_]:=L.ob;let#[#[o0,c1,c2],py]:=L.py;rw[h1] at c1;ext c1;have c3:vs[2]? = some .none:=by unfold nM at c2;rw[hd] at c2;apply c2
 have nc:PySem.W.notCls oe=true:=by
  let#[c,d,dt,sl]:=oe;dsimp only at hd;subst hd;rfl
 cases aS with
 |none=>apply#[_,#[oe,vs,hd,c3,rfl],L.inv.CT L.fr L.ap #[h1,Mv h1 h2 λ_ z=>by ext z]]
 |some n=>
  let#[zV,dx,t,g1,g2,g3,g4,g5]:=py;rw[h1] at g1;ext g1;have ne:dx≠e:=λz=>by
   let#[o,es,ep,q1,q2,_]:=g3;rw[z,h1] at q1;ext q1;rw[hd] at q2;ext q2
  have I1:=L.inv.CT g4 g5 (ags g3);apply#[_,#[oe,vs,hd,c3,dx,ne,g4,rfl],I1.CT (by rw[aN ne.symm];apply L.fr) L.ap #[h1,Mv h1 h2 λ_ z=>by ext z;apply#[g2,nc]]]
def rY.hq{A:Around}(k:rY H H' a cls aS):ug (A.mark (some (.ref a))) H':=by
 let#[ob,vs,h1,h2,k]:=k;refine .inr #[a,ob,?_];cases aS with
 |none=>subst k;apply#[_,vs,rfl,bX,h1,h2]
 |some n=>let#[dx,_,_,rfl]:=k;apply#[_,vs,rfl,bX,h1,h2]
def rY.same(k:rY H H' a cls aS)(fr:H a=none)(q:H b=some o):H' b=some o:=by
 let#[ob,vs,_,_,k]:=k;cases aS with
 |none=>subst k;rw[aN (cX q fr)];apply q
 |some n=>let#[dx,ne,d,rfl]:=k;rw[aN (cX q fr),aN (cX q d)];apply q
def acH(Iv:Nat->Shared->Prop)
  (turn:∀n s,Iv n s->wpAny (model prog w) A (pyNext it) (λr s1=>match r with
   |none=>R (.ok .next) s1
   | some v=>wpAny (model prog w) A (letOwnedTupleGo tg it v) (λ_ qP=>wpAny (model prog w) A (assign tg env v) (λ_ s2=>
     wpAny (model prog w) A (forIn ifs true λc r=>if r=true then do let ok <- isTrue c env (eval c env);pure (ForInStep.yield ok) else pure (ForInStep.yield r)) (λok s3=>
      if ok=true then wpAny (model prog w) A (eval elt env) (λx s4=>
       wpAny (model prog w) A (call (.builtin "list.append") [acc,x]) (λ_ s5=>∃m,m<n/\Iv m s5) (λ_ _=>False) s4) (λ_ _=>False) s3
      else ∃m,m<n/\Iv m s3) (λ_ _=>False) s2) (λ_ _=>False) qP) (λ_ _=>False) s1) (λ_ _=>False) s)
  (n:Nat) (hn:Iv n s):codeAny (model prog w) A (.compLoop (.ListComp elt [#[tg,iter,ifs,0]] scope pos) 0 it acc env) R s:=by
 have ff:∀{E:Value->Shared->Prop} (x) (s),False->E x s:=λ_ _ f=>f.elim
 refine codeAny_loop rfl Iv (λk s0 hI=>?_) n hn;refine wpAny_noted ?_;rw[compTurn_list];refine aaN (wpAny_standAt (aaN (aeo (turn k s0 hI) (λr s1 h1=>?_) ff)));cases r with
 |none=>apply acp h1
 |some v=>
  refine aaN (aeo h1 (λ_ qP iC=>aaN (aeo iC (λ_ s2 h2=>aaN (aeo h2 (λok s3 h3=>?_) ff)) ff)) ff);cases ok with
  |false=>apply acp #[rfl,h3]
  |true=>apply aaN (aaN (aeo h3 (λx s4 h4=>aaN (aeo h4 (λ_ s5 h5=>acp (acp #[rfl,h5])) ff)) ff))
def frees(sc:Scope):List Str:=(sc.names.filter λx=>x.2 == .free).map (·.1)
def lZ(env:Env):List (Str×NameKind)->List (Str×Addr)->List (Str×Addr)
 |[],cs=>cs
 |(n,k)::r,cs=>lZ env r (if k == .free then(n,(env.cells.lookup n).getD 0)::cs else cs)
def L7(h:∀x∈frees sc,∃c,env.cells.lookup x=some c):closureFor sc env=pure (lZ env sc.names []):=by
 have key:∀(l) (cs),(∀x∈(l.filter λx=>x.2 == .free).map (·.1),∃c,env.cells.lookup x=some c)->
   (forIn l cs λx r=>(do
    let(name,kind):=x
    if kind == .free then do
     let a <- cellOf env name
     pure (ForInStep.yield ((name,a)::r))
    else pure (ForInStep.yield r):Sem (ForInStep (List (Str×Addr)))))=pure (lZ env l cs):=by
  intro l
  induction l with
  |nil=>intro cs _;rfl
  |cons p r ih=>
   let#[n,k]:=p;intro cs h;rw[List.forIn_cons]
   by_cases hk:(k==NameKind.free)=true
   .let#[c,hc]:=h n (by simp[hk]);have EG:=ih ((n,c)::cs) λx hx=>h x (by simp only[ag3,hk,if_true,aaB,aaO];apply Or.inr hx)
    have e:cellOf env n=pure c:=by unfold cellOf;rw[hc]
    simp only[hk,if_true,e,pure_bind,lZ,hc,aiy];apply EG
   .have EG:=ih cs λx hx=>h x (by simp only[ag3,hk];apply hx)
    simp only[hk,lZ,aii,if_false,pure_bind];apply EG
 unfold closureFor;have k:=key sc.names [] h;simp only[bind_pure] at k ⊢
 first
  |exact k
  |(simp only[pure_bind];apply k)
theorem OQ:∀{l} {cs} {x} {c},(lZ env l cs).lookup x=some c->
  cs.lookup x=some c\/((x,NameKind.free)∈l/\c=(env.cells.lookup x).getD 0)
 |[],_,_,_,h=>.inl h
 |(n,k)::r,cs,x,c,h=>by
  rcases OQ (l:=r) h with q|⟨q,e⟩
  .by_cases hk:(k==NameKind.free)=true
   .rw[if_pos hk,aeW] at q
    by_cases hx:(x==n)=true
    .rw[hx] at q;have e:=eq_of_beq hx;subst e;have UR:k=.free:=by ext k<;>first|rfl|exact absurd hk (by decide)
     subst UR;apply .inr #[aah,(ach q).symm]
    .rw[Bool.not_eq_true] at hx;rw[hx] at q;apply .inl q
   .rw[abo hk] at q;apply .inl q
  .exact .inr #[aab _ q,e]
theorem Kz:∀{l} {cs} {x},(∃c,cs.lookup x=some c)\/(x,NameKind.free)∈l->∃c,(lZ env l cs).lookup x=some c
 |[],_,_,h=>h.elim id λz=>nomatch z
 |(n,k)::r,cs,x,h=>by
  refine Kz (l:=r) ?_;rcases h with⟨c,h⟩|h
  .left
   by_cases hk:(k==NameKind.free)=true
   .rw[if_pos hk,aeW]
    by_cases hx:(x==n)=true
    .rw[hx];apply#[_,rfl]
    .rw[Bool.not_eq_true] at hx;rw[hx];apply#[c,h]
   .rw[abo hk];apply#[c,h]
  .rcases aaO.mp h with e|h
   .left
    ext e;rw[if_pos (by decide),aeW,aia];apply#[_,rfl]
   .exact .inr h
def f_(X:Cx)(N:List Str)(sc:Scope)(s3:Shared)(H3:Hp)(fp:List Addr):Cx:=
 { X with N:=N,cT:=s3,vZ:=H3,env:=compEnvC sc (lZ X.env sc.names []) s3.heap.objs.size X.env,outer:=X.stack,stack:=X.stack,ex:=fp,fn:=λ_=>false,pn:=[],xe:=λ_ _=>False }
def mQ(js:List (Option Nat))(U:St):St:=js.map λj=>match j with
 |none=>none
 |some j=>(U[j]?).join
def oB(N:List Str)(sc:Scope):List Str->List (Option Nat)->Bool
 |[],[]=>true
 |x::r,none::js=>oB N sc r js
 |x::r,some j::js=>decide (N[j]? = some x)&&decide (sc.names.lookup x=some .free)&&oB N sc r js
 |_,_=>false
theorem A9:∀{M} {js},oB N sc M js=true->js.length=M.length
 |[],[],_=>rfl
 |_::r,none::js,h=>by
  have:=A9 (js:=js) h;simp[this]
 |_::r,some j::js,h=>by
  unfold oB at h;have:=A9 ((aaV _ _).mp h).2;simp[this]
 |[],_::_,h=>by ext h
 |_::_,[],h=>by ext h
theorem Hw:∀{M} {js}{i j:Nat} {x},oB N sc M js=true->M[i]? = some x->js[i]? = some (some j)->N[j]? = some x/\sc.names.lookup x=some .free
 |[],_,_,_,_,_,h,_=>by simp at h
 |_::_,[],_,_,_,h,_,_=>by ext h
 |y::r,none::js,0,j,x,h,h1,h2=>by simp at h2
 |y::r,some q::js,0,j,x,h,h1,h2=>by
  simp at h1 h2;subst h1 h2;unfold oB at h;let#[a,b]:=(aaV _ _).mp ((aaV _ _).mp h).1;apply#[aaK a,aaK b]
 |y::r,none::js,i+1,j,x,h,h1,h2=>Hw (js:=js) h (by simpa using h1) (by simpa using h2)
 |y::r,some q::js,i+1,j,x,h,h1,h2=>by
  unfold oB at h;apply Hw ((aaV _ _).mp h).2 (by simpa using h1) (by simpa using h2)
structure oN(X:Cx)(M:List Str)(js:List (Option Nat))(sc:Scope):Prop where
 kind:sc.kind=.function
 zu:∀y∈sc.names,y.2≠.cell
 loc:∀y∈sc.names,y.2=.local->sc.names.lookup y.1=some .local
 Hx:oB X.N sc M js=true
 free:∀x∈frees sc,X.env.kindOf x=some .cell\/X.env.kindOf x=some .free
 nd:M.Nodup
def DC(wi:TI)(js:List (Option Nat))(g:TG)(tt:TT)(te:TE):TE:=λU H Q=>wi U H λJ H1=>∀D,H1 D=none->
 ∃W:Nat->Nat->St->Hp->Prop,(∃m,W 0 m (mQ js U) (upd H1 D (.lst [])))/\∀i m aB H',W i m aB H'->
  (J.stop i H'/\Q (.ref D) H')\/(J.go i H'/\∀x H2,J.zG i H' x H2->g x aB H2 λdz H3=>tt dz H3 λb H4=>
   if b=true then te dz H4 λy H5=>∃xs,H5 D=some (.lst xs)/\xs.length<sizeLine/\∃m',m'<m/\W (i+1) m' dz (upd H5 D (.lst (xs++[y])))
   else ∃m',m'<m/\W (i+1) m' dz H4)
def wX(X:Cx)(ifs:List Expr)(t:TT):Prop:=
 ∀(af) (s) (U) (H) (Q),Inv X af U H s->t U H Q->
  wpAny (model X.prog X.w) X.A (forIn ifs true λc r=>if r=true then do let ok <- isTrue c X.env (eval c X.env);pure (ForInStep.yield ok) else pure (ForInStep.yield r)) (TP X af U Q) X.xe s
def VI(h:PT X c t):wX X [c] t:=λaf s U H Q I q=>wpAny_tests_one (h af s U H Q I q)
def Inv.comp(S:oN X M js sc)(I:Inv X af U H3 s3)
  (hf:∀b∈fp,iZ X af H3 b) (eT:∀b∈fp,b<s3.heap.objs.size) (hn:h'.Ns s3.heap.objs.size λ_=>none) (hk:∀b o,s3.heap.get? b=some o->h'.get? b=some o) :
  Inv (f_ X M sc s3 H3 fp) [] (mQ js U) H3 { s3 with heap:=h',toks:=tk }:=by
 have cl:∀{x} {c},(lZ X.env sc.names []).lookup x=some c->X.env.cells.lookup x=some c:=λ{x c} e=>by
  rcases OQ e with q|⟨q,e'⟩
  .cases q
  .let#[c',hc]:=I.ok.has x (S.free x (acg.mpr #[(x,.free),adh.mpr #[q,rfl],rfl]));rw[hc] at e' ⊢;rw[e'];rfl
 have jn:=af0 I.ok.jn I.sz;have lk:∀{x},sc.names.lookup x=some .free->(relabel sc X.env).names.lookup x=some .cell\/(relabel sc X.env).names.lookup x=some .free:=λ{x} e=>by
  have key:∀(l:List (Str×NameKind)),l.lookup x=some .free->(l.map λ(n,k)=>if(k==NameKind.free&&X.env.scope.kind == .function&&X.env.kindOf n==some .cell) then(n,NameKind.cell) else(n,k)).lookup x=some .cell\/
    (l.map λ(n,k)=>if(k==NameKind.free&&X.env.scope.kind == .function&&X.env.kindOf n==some .cell) then(n,NameKind.cell) else(n,k)).lookup x=some .free:=by
   intro l
   induction l with
   |nil=>intro e;ext e
   |cons p r ih=>
    let#[n,k]:=p;intro e;rw[aeW] at e;rw[aaB]
    by_cases hx:(x==n)=true
    .rw[hx] at e;have e':=ach e;subst e';dsimp only
     split
     .left;rw[aeW,hx]
     .right;rw[aeW,hx]
    .rw[Bool.not_eq_true] at hx;rw[hx] at e;dsimp only
     split<;>(rw[aeW,hx];apply ih e)
  apply key sc.names e
 have kf:∀{x},((relabel sc X.env).names.lookup x=some .cell\/(relabel sc X.env).names.lookup x=some .free)->(x,NameKind.free)∈sc.names:=λ{x} e=>by
  have key:∀(l:List (Str×NameKind)),(∀y∈l,y.2≠.cell)->((l.map λ(n,k)=>if(k == NameKind.free&&X.env.scope.kind == .function&&X.env.kindOf n == some .cell) then(n,NameKind.cell) else(n,k)).lookup x=some .cell\/
    (l.map λ(n,k)=>if(k==NameKind.free&&X.env.scope.kind == .function&&X.env.kindOf n==some .cell) then(n,NameKind.cell) else(n,k)).lookup x=some .free)->(x,NameKind.free)∈l:=by
   intro l
   induction l with
   |nil=>intro _ e;rcases e with e|e<;>ext e
   |cons p r ih=>
    let#[n,k]:=p;intro nc e;rw[aaB] at e
    by_cases hx:(x==n)=true
    .have e0:=eq_of_beq hx;subst e0;have Wl:k=.free:=by
      dsimp only at e
      split at e
      .rename_i hc;have:=((aaV _ _).mp ((aaV _ _).mp hc).1).1;ext k<;>first|rfl|exact absurd this (by decide)
      .rw[aeW,aia] at e;rcases e with e|e
       .exact absurd (ach e) (nc _ aah)
       .exact ach e
     rw[Wl];apply aah
    .rw[Bool.not_eq_true] at hx;refine aab _ (ih (λy hy=>nc y (aab _ hy)) ?_);dsimp only at e
     split at e<;>(rw[aeW,hx] at e;apply e)
  apply key sc.names S.zu e
 refine#[#[I.ok.mod,S.kind,I.ok.glob,I.ok.blt,abD _,λx y c h1 h2=>I.ok.inj x y c (cl h1) (cl h2),λx hx=>Kz (.inr (kf hx)),(λx c h _=>by ext h),I.ok.hd,I.ok.frames,.inl rfl,λb hb=>#[acV (eT b hb),λx c e=>(hf b hb).2.2.2.2.1 x c (cl e)],
   I.bs,jn,λb o e hb=>?_,λb hb wU=>?_,I.stack,I.vj],
  rfl,I.bare,Un.kept hk,#[_,hn,λi x v h1 h2 h3=>?_],λx c e=>?_,I.aG.fresh (abD _),λx c e=>I.gU x c (cl e),λp hp=>absurd (show p∈([]:List (Addr×Obj)) from hp) (by simp),I.aG.kept hk,?_,I.hq]
 .rcases(hf b hb).2.2.2.1 with z|z
  .exact I.ok.pG b o e z
  .exact absurd (ac9 (abh e) (af0 I.ok.jn z)) (afO _)
 .rcases aaO.mp (I.BV b wU) with z|z
  .exact(hf b hb).2.1 z
  .exact(hf b hb).2.2.1 z
 .have hlen:=A9 S.Hx;have hi:i<js.length:=by rw[hlen];apply(ac0.mp h1).1
  unfold mQ at h2;rw[adm,abm hi,Option.map_some] at h2;exists hj,js[i],j,h2;have nv:(U[j]?).join=some v:=ach h2;let#[a,b]:=Hw S.Hx h1 (by rw[abm hi,hj]);have hs:U[j]? = some (some v):=by
   exists q,U[j]?,z,nv;rw[show z=some v from nv]
  have pZ:=S.free x (acg.mpr #[(x,.free),adh.mpr #[PySem.mem_of_lookup b,rfl],rfl]);let#[m,hm,hl]:=I.loc;let#[u,ru,l]:=hl j x v a hs (pZ.elim (λz=>.inr (.inl z)) λz=>.inr (.inr z));refine#[u,ru,.inr #[lk b,?_]];rcases l with⟨k,_⟩|⟨_,c,e,hc⟩
  .rcases pZ with z|z<;>(rw[z] at k;ext k)
  .let#[c',uf]:=Kz (.inr (PySem.mem_of_lookup b));have e':=cl uf;rw[e] at e';have e2:=ach e';subst e2;let#[o,ho,hd]:=hc;apply#[c,uf,o,hk _ _ ho,hd]
 .let#[v,o,ho,hd]:=I.cell x c (cl e);apply#[v,o,hk _ _ ho,hd]
 .unfold mQ;rw[List.length_map];apply A9 S.Hx
def Inv.LH(I:Inv X af U H3 s3)(hf:∀b∈fp,iZ X af H3 b)
  (J:Inv (f_ X M sc s3 H3 fp) wJ aB H' s') (hs:Heap.SameBut s3.heap.objs.size s'.heap h'):Inv X af U H' { s' with heap:=h' }:=by
 have B:=J.base;have ne:∀{b} {o},s3.heap.get? b=some o->b≠s3.heap.objs.size:=λe=>acV (abh e)
 have B':Un (aY X.stack) fp H3 H' s3.heap h':=#[λb o e n hb hx=>(hs.2 b (ne e)).trans (B.keep b o e n hb hx),λb o e n hb hx=>let#[sl,q]:=B.slot b o e n hb hx;#[sl,(hs.2 b (ne e)).trans q],B.free,
  λb o e hx=>let#[o',q]:=B.there b o e hx;#[o',(hs.2 b (ne e)).trans q],B.jw,B.jh,B.jU]
 have fr:H' s3.heap.objs.size=none:=J.free;refine I.TQ J.os B' (λb u e=>?_) J.bare λb hb=>#[(hf b hb).2.2.2.1,(hf b hb).2.1,(hf b hb).2.2.2.2.1,(hf b hb).2.2.2.2.2]
 refine(J.aG b u e).gH (λc v hc q=>(hs.2 c ?_).trans q) (λ_ q=>q) λ_ _ q=>q
 rintro rfl
 rcases hc with rfl|hc
 .rw[fr] at e;ext e
 .rw[fr] at hc;ext hc
def RZ
  {Q:VK}{RR:Value->Addr->Result->Shared->Prop} (S:oN X M js sc) (hc:X.calm=true\/J.rg=true) (I2:Inv X af U H2 s2) (T:Turn X.prog X.w X.K tg J fp it tn) (st:tn 0 s2.heap) (hf:∀b∈fp,iZ X af H2 b)
  (hb:∀s3 H3 fp,PG (f_ X M sc s3 H3 fp) tg g/\wX (f_ X M sc s3 H3 fp) ifs tt/\PE (f_ X M sc s3 H3 fp) elt te)
  (h:∀D,H2 D=none->∃W:Nat->Nat->St->Hp->Prop,(∃m,W 0 m (mQ js U) (upd H2 D (.lst [])))/\∀i m aB H',W i m aB H'->
   (J.stop i H'/\Q (.ref D) H')\/(J.go i H'/\∀x H2,J.zG i H' x H2->g x aB H2 λdz H3=>tt dz H3 λb H4=>
    if b=true then te dz H4 λy H5=>∃xs,H5 D=some (.lst xs)/\xs.length<sizeLine/\∃m',m'<m/\W (i+1) m' dz (upd H5 D (.lst (xs++[y])))
    else ∃m',m'<m/\W (i+1) m' dz H4))
  (hR:∀D s3 H3 s' aB H',Inv X af U H3 s3->(∀b∈fp,iZ X af H3 b)->Inv (f_ X M sc s3 H3 fp) [] aB H' s'->Q (.ref D) H'->RR (.ref D) s3.heap.objs.size (.ok .next) s') :
  wpAny (model X.prog X.w) X.A (newList []) (λacc Aw=>wpAny (model X.prog X.w) X.A (newFunctionEnv sc X.env.globals (lZ X.env sc.names []) [] X.env.qual none .none (some X.env)) (λRx acQ=>
   codeAny (model X.prog X.w) X.A (.compStart (.ListComp elt [#[tg,iter,ifs,0]] sc pos) 0 (.ref it) acc { Rx with scope:=relabel sc X.env }) (RR acc Rx.locals) acQ) X.xe Aw) X.xe s2:=by
 have agn:=I2.aG.fresh (abD _);let#[W,#[m0,w0],turn]:=h _ agn;have I3:Inv X af U (upd H2 s2.heap.objs.size (.lst [])) { s2 with heap:=s2.heap.push { cls:=.type "list",data:=.seq ([]:List Value).toArray } }:=
  I2.laid (λ_ _ q=>aaA _ q) (abD _) #[ade _,[],0,.nil,ab4 _ rfl]
 have Ec:∀b∈fp,b<s2.heap.objs.size:=λb hb=>let#[_,e,_]:=T.obj _ _ st b hb;abh e
 have GP:∀b∈fp,iZ X af (upd H2 s2.heap.objs.size (.lst [])) b:=λb hb=>#[by rw[aN (acV (Ec b hb))];apply(hf b hb).1,(hf b hb).2]
 have hsz:(s2.heap.push { cls:=.type "list",data:=.seq ([]:List Value).toArray }).objs.size=s2.heap.objs.size+1:=aiA ..;refine ahV (wpAny_newFunctionEnv S.zu (λy hy=>nomatch hy) (λh1 hn1 hs1=>?_) S.kind);generalize wL:({ s2 with heap:=s2.heap.push { cls:=.type "list",dict:=none,data:=.seq ([]:List Value).toArray } }:Shared)=s3 at *;have OZ:∀b o,s3.heap.get? b=some o->h1.get? b=some o:=λb o e=>(hs1.2 b (acV (abh e))).trans (aaA _ e)
 have LK:∀b∈fp,b<s3.heap.objs.size:=λb hb=>by rw[<- wL];show b<(s2.heap.push _).objs.size;rw[hsz];apply aiW (Ec b hb)
 have I4:Inv (f_ X M sc s3 (upd H2 s2.heap.objs.size (.lst [])) fp) [] (mQ js U) (upd H2 s2.heap.objs.size (.lst [])) { s3 with heap:=h1,toks:=s3.toks+([]:List (Str×Value)).length }:=I3.comp S GP LK hn1 OZ;let#[hg,ht,he]:=hb s3 (upd H2 s2.heap.objs.size (.lst [])) fp;have uo:∀{H'},(∀b∈fp,H' b=none)->∀b∈fp,iZ (f_ X M sc s3 (upd H2 s2.heap.objs.size (.lst [])) fp) [] H' b:=λ{H'} hn b hb=>
  #[hn b hb,acV (LK b hb),I4.ok.o_ b hb,.inl hb,(I4.ok.tu b hb).2,λp hp=>absurd (show p∈([]:List (Addr×Obj)) from hp) (by simp)]
 have NL:=T.keep _ _ _ st λb hb o e=>OZ b o (by rw[<- wL];apply aaA _ e)
 have fr4:∀b∈fp,upd H2 s2.heap.objs.size (.lst []) b=none:=λb hb=>(GP b hb).1
 have loop:codeAny (model X.prog X.w) X.A (.compLoop (.ListComp elt [#[tg,iter,ifs,0]] sc pos) 0 (.ref it) (.ref s2.heap.objs.size) (compEnvC sc (lZ X.env sc.names []) s3.heap.objs.size X.env)) (RR (.ref s2.heap.objs.size) s3.heap.objs.size)
   { s3 with heap:=h1,toks:=s3.toks+([]:List (Str×Value)).length }:=by
  refine acH (λn s'=>∃i aB H',Inv (f_ X M sc s3 (upd H2 s2.heap.objs.size (.lst [])) fp) [] aB H' s'/\tn i s'.heap/\(∀b∈fp,H' b=none)/\W i n aB H') ?_ m0 #[0,_,_,I4,NL,fr4,w0]
  rintro n s5 ⟨i,B4,H5,I5,wC,l5,w5⟩
  rcases turn i n B4 H5 w5 with⟨stop,q⟩|⟨go,step⟩
  .refine cQ (T.done (f_ X M sc s3 (upd H2 s2.heap.objs.size (.lst [])) fp) rfl rfl rfl hc i [] s5 B4 H5 _ I5 (uo l5) wC stop) ?_
   rintro r s6 ⟨hr,I6⟩
   subst hr;apply hR _ _ _ _ _ _ I3 GP I6 q
  .refine cQ (T.item (f_ X M sc s3 (upd H2 s2.heap.objs.size (.lst [])) fp) rfl rfl rfl hc i [] s5 B4 H5 _ I5 (uo l5) wC go) ?_
   rintro r s6 ⟨u,hr,h6⟩
   subst hr;refine cQ h6 ?_
   rintro _ s7 ⟨x,H7,I7,r7,y7,Gu,fr7⟩
   have UX:=I7.pinned (uo fr7) (T.obj _ _ Gu);have back:∀{rB} {H8} {s8},Inv (f_ X M sc s3 (upd H2 s2.heap.objs.size (.lst [])) fp) ([]++xF fp s7.heap) rB H8 s8->tn (i+1) s8.heap/\(∀b∈fp,H8 b=none):=λ{rB H8 s8} I8=>
    #[T.keep _ _ _ Gu λb hb o e=>(I8.pin (b,o) (aaS _ (aaS _ (BG hb e)))).1,λb hb=>by
     let#[o,e,_]:=T.obj _ _ Gu b hb;apply(I8.pin (b,o) (aaS _ (aaS _ (BG hb e)))).2.1]
   refine cQ (hg _ s7 B4 H7 x u _ UX r7 (step x H7 y7)) ?_
   rintro _ s8 ⟨rB,H8,I8,q8⟩
   refine GU (ht _ s8 rB H8 _ I8 q8) λok s9 H9 I9 q9=>?_
   cases ok with
   |false=>
    rw[abo aa2] at q9 ⊢;let#[m',hm,w9]:=q9;let#[a9,b9]:=back I9;apply#[m',hm,i+1,rB,H9,I9.zX,a9,b9,w9]
   |true=>
    rw[if_pos rfl] at q9 ⊢;refine cQ (he _ s9 rB H9 _ I9 q9) λy mS hq=>?_
    let#[yv,Rg,Vq,r10,xs,hD,hz,m',hm,w10]:=hq;refine BU (Hs _ mS rB Rg (.ref s2.heap.objs.size) [yv] (.ref s2.heap.objs.size) [y] (λv Pc=>v=.aC/\Pc=upd Rg s2.heap.objs.size (.lst (xs++[yv]))) Vq rfl (.cons r10 .nil) #[_,xs,yv,rfl,rfl,hD,hz,rfl,rfl]) λ_ pS v11 Pc QX _ q=>?_
    let#[_,N3]:=q;subst N3;let#[a9,b9]:=back QX;apply#[m',hm,i+1,rB,_,QX.zX,a9,b9,w10]
 apply codeAny_compStart_list loop (T.self _ 0 _ _ _ NL loop)
def Zt{g:TG}(S:oN X M js sc)(hc:X.calm=true)(hi:PI X tg iter wi)
  (hb:∀s3 H3 fp,PG (f_ X M sc s3 H3 fp) tg g/\wX (f_ X M sc s3 H3 fp) ifs tt/\PE (f_ X M sc s3 H3 fp) elt te) (hs:∀x,foldedSetIterable iter X.env x=pure x:=by intro _;rfl) :
  PE X (.ListComp elt [#[tg,iter,ifs,0]] sc pos) (DC wi js g tt te):=by
 intro af s U H Q I h;rw[eval_ListComp];refine wpAny_comprehension_free rfl hs (L7 λx hx=>I.ok.has x (S.free x hx)) S.kind S.loc ?_;refine cQ (hi af s U H _ I h) λv s1 h1=>cQ h1 λCc s2 hq=>?_
 let#[it,fp,tn,J,H2,e,I2,T,rR,f2,h2]:=hq;subst e;refine RZ S (.inl hc) I2 T rR f2 hb h2 λD s3 H3 s' aB H' I3 f3 J' q=>?_
 let#[m,hm,_]:=J'.loc;apply#[m,hm,λh' cZ=>#[.ref D,H',I3.LH f3 J' cZ,rfl,q]]
def aa7(hN:X.N.Nodup)(hy:X.N[i]? = some y)(hl:X.env.scope.names.lookup y=some .local)
  (S:oN X M js sc) (hc:X.calm=true) (hi:PI X tg iter wi) (hb:∀s3 H3 fp,PG (f_ X M sc s3 H3 fp) tg g/\wX (f_ X M sc s3 H3 fp) ifs tt/\PE (f_ X M sc s3 H3 fp) elt te)
  (jQ:swapsWith (.ListComp elt [#[tg,iter,ifs,0]] sc pos) (some (.Name y py)) Ib.line X.env=pure true:=by rfl) (hs:∀x,foldedSetIterable iter X.env x=pure x:=by intro _;rfl) :
  PS X (.Assign [.Name y py] (.ListComp elt [#[tg,iter,ifs,0]] sc pos) Ib) (Qs (DC wi js g tt te) (Cn i)):=by
 intro af s U H D I h;rw[exec_Assign_Name_used _ _ _ _ jQ];refine aaN (wpAny_standAt (aaN ?_));refine aaN (aeo (wpAny_comprehension_free rfl hs (L7 λx hx=>I.ok.has x (S.free x hx)) S.kind S.loc ?_) (λ_ s' q=>acp (acp q)) λ_ _ e=>e);refine cQ (hi af s U H _ I h) λv s1 h1=>cQ h1 λCc s2 hq=>?_
 let#[it,fp,tn,J,H2,e,I2,T,rR,f2,h2]:=hq;subst e;refine RZ (Q:=λx H1=>Cn i x U H1 D.nx) S (.inl hc) I2 T rR f2 hb h2 λDa s3 H3 s' aB H' I3 f3 J' q=>?_
 have sb:Heap.SameBut s3.heap.objs.size s'.heap s'.heap:=#[rfl,λ_ _=>rfl]
 have I5:=I3.LH f3 J' sb;let#[m,hm,_]:=J'.loc;have ne:=acV I3.lt;refine wpAny_assign_Name (P0 I5 hN hy (.inl hl) (show RelV (.ref Da) (.ref Da) from rfl) (λs6 I6 #[a,EK,ha]=>?_) (.inr hl));have kc:∀x c,X.env.cells.lookup x=some c->c≠s3.heap.objs.size:=λx c e=>by
  let#[v',pX]:=I3.cell x c e;apply acV pX.lt
 have na:=ha.elim (λe=>by rw[e];apply ne) λz=>kc y a z
 refine#[m,hm.sameBut EK (agM na),λh' cZ=>#[_,H',I6.turned (λb o hb e=>(cZ.2 b hb).trans e) J'.free (agM ne) (.inr I3.sz) kc (λp hp=>?_),q]];apply acV (abh (I3.pin p hp).1)
def ahH:typeLookup (.type "dict") "__len__"=pure (some (.builtin "dict.__len__")):=by rw[typeLookup_type,builtinLookup_eq_fast];kernel_rfl
section
variable{prog:Program}{w:World}{A:Around}{E:Value->Shared->Prop}{s:Shared}
def WY{κ:Type}[DecidableEq κ]{knd:KeyKind prog w κ}{ak:List (κ×Value)}{Q:List Value->Shared->Prop}(hh:A.handled=none)(hd:(d==sysModules)=false)(hm:s.heap.DictOf knd d ak)(hz:ak.length<=sizeLine)
  (hQ:∀s' acc,s.heap.objs.size<=s'.heap.objs.size->(∀b o,s.heap.get? b=some o->s'.heap.get? b=some o)->s'.gens=s.gens->s'.drawn=s.drawn->s'.os=s.os->ItemsOf (λi v=>∃k x,ak[i]? = some (k,x)/\knd.is k v=true) acc ak.length->Q acc.toList s') :
  wpAny (model prog w) A (collect (.ref d)) Q E s:=by
 let#[ep,hm]:=hm.dictAt;have eT:=hm.lt_size;unfold collect;refine aaN (wpAny_runValue (agF F.entry_proto_collect ?_));rw[afM F.plain_proto_collect _];refine aaN (ahV ?_);refine acp #[aik F.plain_list_iadd _,agF F.entry_list_iadd ?_];rw[afM F.plain_list_iadd _];have n6:=hm.push { cls:=.type "list",data:=.seq ([]:List Value).toArray };have hT1:({ s with heap:=s.heap.push { cls:=.type "list",data:=.seq ([]:List Value).toArray } }:Shared).TypeIs (.ref d) "dict":=n6.dictOf.typeIs;show wpAny (model prog w) A.in1 (Builtin.List.listExtendWith (.ref s.heap.objs.size) (.ref d) (.ref s.heap.objs.size)) _ _ _;unfold Builtin.List.listExtendWith;refine aaN (wpAny_typeOf hT1 ?_);have h1:Builtin.List.listSameRef (.ref s.heap.objs.size) (.ref d)=false:=by simp[Builtin.List.listSameRef,ahU eT]
 have h2:(Value.type "dict" == Value.type "list")=false:=by decide
 have h3:(Value.type "dict" == Value.type "tuple")=false:=by decide
 simp only[h1,h2,h3,Bool.or_false,aii,if_false];refine aaN (wpAny_pyIter_dict hd n6 ?_);refine aaN (agJ ?_);have mV:=n6.push { cls:=.type "dict_keyiterator",data:=.fields ([.ref d,.int 0 0,.int ak.length 0,.int ep 0].toArray) };have Jz:({ s with heap:=(s.heap.push { cls:=.type "list",data:=.seq ([]:List Value).toArray }).push { cls:=.type "dict_keyiterator",data:=.fields ([.ref d,.int 0 0,.int ak.length 0,.int ep 0].toArray) } }:Shared).TypeIs (.ref d) "dict":=mV.dictOf.typeIs;unfold Builtin.List.listLengthHint;refine aaN (wpAny_specialOf Jz ahH ?_);generalize Ir:("dict.__len__":String)=OB
 (fail_if_success (clear Ir OB))
 wp_delta
 rw[show splitId OB=some ("dict","__len__") from by subst Ir;decide +kernel];subst Ir;refine aaN (wpAny_isInstance (b:=true) Jz (by rw[isSubtype_type];kernel_rfl) ?_);refine aaN (wpAny_typeOf Jz ?_);refine acp ?_;refine aaN (wpAny_rule ?_);have hsz:(s.heap.push { cls:=.type "list",data:=.seq ([]:List Value).toArray }).objs.size=s.heap.objs.size+1:=aiA ..;generalize zq:s.heap.push { cls:=.type "list",data:=.seq ([]:List Value).toArray }=h1 at *;have Xo:h1.get? s.heap.objs.size=some { cls:=.type "list",data:=.seq ([]:List Value).toArray }:=by rw[<- zq];apply ab4 _ rfl
 have acU:∀b o,s.heap.get? b=some o->h1.get? b=some o:=λb o e=>by rw[<- zq];apply aaA _ e
 dsimp only;have hI2:(h1.push { cls:=.type "dict_keyiterator",data:=.fields ([.ref d,.int 0 0,.int ak.length 0,.int ep 0].toArray) }).get? h1.objs.size=some { cls:=.type "dict_keyiterator",data:=.fields ([.ref d,.int 0 0,.int ak.length 0,.int ep 0].toArray) }:=ab4 _ rfl;have Q6:(h1.push { cls:=.type "dict_keyiterator",data:=.fields ([.ref d,.int 0 0,.int ak.length 0,.int ep 0].toArray) }).get? s.heap.objs.size=some { cls:=.type "list",data:=.seq ([]:List Value).toArray }:=aaA _ Xo;have ZN:∀b o,s.heap.get? b=some o->(h1.push { cls:=.type "dict_keyiterator",data:=.fields ([.ref d,.int 0 0,.int ak.length 0,.int ep 0].toArray) }).get? b=some o:=λb o e=>aaA _ (acU b o e)
 generalize hh2:h1.push { cls:=.type "dict_keyiterator",data:=.fields ([.ref d,.int 0 0,.int ak.length 0,.int ep 0].toArray) }=h2 at *;have Tc:s.heap.objs.size≠h1.objs.size:=by rw[hsz];apply acV (aix _)
 have QN:=ahU eT;have YT:d≠h1.objs.size:=by rw[hsz];apply acV (aiW eT)
 refine aaN ?_;refine aaN (aiQ Q6 rfl ?_);have T8:=aid (Obj.mapSeq (·.push Value.none)) Q6 rfl;refine aiQ T8 rfl ?_;have hS4:=aid (Obj.mapSeq (·.pop)) T8 rfl;have JA:∀b o,b≠s.heap.objs.size->h2.get? b=some o->((h2.update s.heap.objs.size (Obj.mapSeq (·.push Value.none))).update s.heap.objs.size (Obj.mapSeq (·.pop))).get? b=some o:=
  λb o hb e=>(aeQ _ _ (agM hb)).trans ((aeQ _ _ (agM hb)).trans e)
 have W:=(Walks.dictKeys (A:=A.in1) (knd:=knd) hh h1.objs.size d YT ak ep).toS;refine acp #[aik F.plain_extend_loop _,codeAny_extend_loopS W hz s.heap.objs.size (by simp;apply#[Tc,QN]) _ ak.length 0 _ _ _ rfl (ade _) ?_ hS4 (ItemsOf.nil _) λs' afC c' BH uP nk=>?_]
 .exact#[#[_,JA _ _ (agM Tc) hI2,rfl,rfl],mV.at' λo e=>JA _ _ (agM QN) e]
 .show wpAny (model prog w) A (load s.heap.objs.size >>= _) _ _ s';refine aaN (wpAny_load uP ?_);refine acp (hQ s' afC (af4 (abh uP)) (λb o e=>?_) BH.gens BH.drawn BH.os nk);have hb:=abh e;refine BH.heap b o ?_ (JA b o (acV hb) (ZN b o e));intro m;rcases aaO.mp m with z|z
  .exact absurd hb (by rw[z];apply afO _)
  .have z:=aav.mp z;rw[hsz] at z;apply absurd hb (by rw[z];apply Nat.not_lt.mpr (Nat.le_succ _))
def aaq{x:Value}{Q:Value->Shared->Prop}(hc:∀(Q':List Value->Shared->Prop),(∀vs s',(∃ns,IntsAre vs ns/\∀(out:Array Value) (eY:List Int),IntsAre out.toList eY->eY.Perm ns->eY.Pairwise (·<=·)->
    Q (.ref s'.heap.objs.size) { s' with heap:=sortedHeap (s'.heap.push (seqObj "list" vs.toArray 0)) s'.heap.objs.size vs out })/\vs.length<64->Q' vs s')->wpAny (model prog w) A.in1 (collect x) Q' E s):wpAny (model prog w) A (call (.builtin "sorted") [x]) Q E s:=by
 refine call_function_tree kind_sorted plain_sorted entry_sorted (args_sorted1 _) ?_;unfold Builtin.«sorted»;refine aaN (acp ?_);refine aaN (hc _ ?_)
 rintro vs s' ⟨⟨ns,hI,h⟩,lY⟩
 refine aaN (wpAny_newList ?_);have A_:(s'.heap.push (seqObj "list" vs.toArray 0)).get? s'.heap.objs.size=some (seqObj "list" vs.toArray 0):=ab4 _ rfl;refine aaN (agJ (wpAny_call_entry slot_list_sort #[_,A_,rfl] entry_list_sort (list_sort_tree A_ hI lY λout eY a1 a2 a3=>#[_,rfl,?_]) (args_list_sort _)));apply acp (h out eY a1 a2 a3)
end
section
variable{X:Cx}
theorem RK:∀{ks:List Int}{ak:List (Key×Value)}{vs:List Value},ak.map (·.1)=ks.map Sum.inl->vs.length=ak.length->(∀(i:Nat) v,vs[i]? = some v->∃k x,ak[i]? = some (k,x)/\(ie P w).is k v=true)->IntsAre vs ks
 |[],[],vs,_,hl,_=>by cases vs with
  |nil=>apply .nil
  |cons _ _=>simp at hl
 |[],_::_,_,e,_,_=>by simp at e
 |_::_,[],_,e,_,_=>by simp at e
 |k::ks,(q,x)::ak,vs,e,hl,h=>by
  simp only[aaB,agT] at e;let#[rfl,e]:=e;cases vs with
  |nil=>simp at hl
  |cons v vs=>
   let#[k',x',e0,hk]:=h 0 v rfl;have Xv:=ach e0;ext Xv;rcases m8 (show rX (Sum.inl k) v=true from hk) with⟨i,t,e1,e2⟩|⟨y,t,e1,e2⟩
   .cases e1;subst e2;apply .cons k t (RK e (by simpa using hl) λi v hv=>h (i+1) v (by simpa using hv))
   .cases e1
def Qq(K:Fr):List V->Hp->VK->Prop:=λxs H Q=>∃(p:Addr) (ks:List Int),xs=[.ref p]/\ks.length<64/\((∃ak:List (Key×V),H p=some (.dK ak)/\ak.map (·.1)=ks.map Sum.inl)\/bY K H p (ks.map V.int))/\
 ∀(l:Addr) (pq:List Int),H l=none->pq.Perm ks->pq.Pairwise (·<=·)->Q (.ref l) (upd H l (.lst (pq.map V.int)))
def afl(hc:X.calm=true):gI X (.builtin "sorted") (Qq X.K):=by
 intro af s U H xs us Q I r h;let#[p,ks,rfl,lY,Jc,q]:=h;let#[u,rfl,ru]:=vals1 r;ext ru;have fin:∀(vs:List Value) (s':Shared),s.heap.objs.size<=s'.heap.objs.size->(∀b o,s.heap.get? b=some o->s'.heap.get? b=some o)->s'.gens=s.gens->s'.drawn=s.drawn->s'.os=s.os->∀(out:Array Value) (eY:List Int),IntsAre out.toList eY->eY.Perm ks->eY.Pairwise (·<=·)->
   EP X af U Q (.ref s'.heap.objs.size) { s' with heap:=sortedHeap (s'.heap.push (seqObj "list" vs.toArray 0)) s'.heap.objs.size vs out }:=by
  intro vs s' hle hk e1 e2 e3 out eY a1 a2 a3;let#[h',g',d',t',o']:=s';dsimp only at e1 e2 e3 hk hle;subst e1 e2 e3;let#[e,he]:=sortedHeap_at (show(h'.push (seqObj "list" vs.toArray 0)).get? h'.objs.size=some (seqObj "list" vs.toArray 0) from ab4 _ rfl);have hlen:eY.length<64:=by rw[a2.length_eq];apply lY
  refine#[.ref h'.objs.size,upd H h'.objs.size (.lst (eY.map V.int)),I.laid (λb o eb=>?_) hle ?_,rfl,q _ eY (I.aG.fresh hle) a2 a3]
  .have hb:b<h'.objs.size:=abh (hk b o eb);rw[sortedHeap_old (acV hb) (by rw[aiA];apply aiW hb)];apply aaA _ (hk b o eb)
  .exact#[by rw[List.length_map];apply af4 (vD (by omega)),out.toList,e,EE a1,by rw[he]]
 have hh:X.A.handled=none:=I.ok.hd hc;refine aaq λQ' Oh=>?_
 rcases Jc with⟨ak,hp,hk⟩|hp
 .let#[hz,hd,vs,rel,dd]:=R8 I.aG hp;refine WY hh hd dd (by rw[<- rel.length];apply hz) λs' acc hle kp e1 e2 e3 it=>Oh _ s' #[#[ks,?_,λout eY a1 a2 a3=>fin _ s' hle kp e1 e2 e3 out eY a1 a2 a3],?_]
  .refine RK (by rw[<- rel.keys];apply hk) (by rw[af8];apply it.1) λi v hv=>it.2 i v (by rw[<- Array.getElem?_toList];apply hv)
  .rw[af8,it.1,<- rel.length];have:=congrArg List.length hk;rw[List.length_map,List.length_map] at this;omega
 .let#[ay,rv,pl,hz]:=I.list hp;have hi:=intsAre_of rv;have k1:s.heap.objs.size<=((s.heap.push (seqObj "list" ([].toArray) 0)).update s.heap.objs.size (Obj.mapSeq (·++ay.toArray))).objs.size:=by
   rw[Heap.size_update,aiA];apply Nat.le_succ _
  have k2:∀b o,s.heap.get? b=some o->((s.heap.push (seqObj "list" ([].toArray) 0)).update s.heap.objs.size (Obj.mapSeq (·++ay.toArray))).get? b=some o:=λb o e=>
   (aeQ _ _ (ahU (abh e))).trans (aaA _ e)
  refine collect_list pl.isList (Oh _ _ #[#[ks,hi,λout eY a1 a2 a3=>fin ay { s with heap:=(s.heap.push (seqObj "list" ([].toArray) 0)).update s.heap.objs.size (Obj.mapSeq (·++ay.toArray)) } k1 k2 rfl rfl rfl out eY a1 a2 a3],?_]) (by rw[<- rv.length];apply hz);rw[<- rv.length,List.length_map];apply lY
end
def ab1(a d:Value):argsOk "min" #[[a],[("default",d)]]:=by unfold argsOk;kernel_rfl
def BO:(toString "min"++toString ".loop":String)="min.loop":=by decide
def ahu(W:Walks prog w A.in1 it gm jP n P T)(bt:Nat->Nat->Bool)(DS:CmpOf prog w A.in1 .Lt P bt)(kw:List (Str×Value))(B:Addr)(hB:B∉gm):
  ∀(k j) (s) (vb) (c),n-(j+1)=k->j+1<=n->T (j+1) s.heap->P (argBest bt j) vb->s.heap.get? B=some { cls:=.type "list",dict:=none,data:=.seq ([vb,vb].toArray) c,slots:=([].toArray) }->
   (∀v h' tk,P (argBest bt (n-1)) v->(∀b o,b∉jP->b≠B->s.heap.get? b=some o->h'.get? b=some o)->R (.ok (.ret v)) { s with heap:=h',toks:=tk })->
   codeAny (model prog w) A (.builtin "min.loop" #[[.ref it,.none,.ref B],kw]) R s:=by
 have nB:B∉jP:=λm=>hB (W.sub _ m)
 intro k
 induction k with
 |zero=>
  intro j s vb c e1 e2 st pb gB fin;have en:j+1=n:=by omega
  refine agF F.entry_min_loop ?_;rw[afM aic _];refine aaN (wpAny_seqItems gB rfl ?_);refine aaN (aiI (W.done s _ _ (en ▸ st) λh1 t1 kp=>?_));have qA:=kp B _ nB gB;refine aaN (aiQ qA rfl (aaN (wpAny_letGo (acp ?_))));apply fin vb _ t1 (by rw[<- en];apply pb) λb o m1 m2 e=>(aeQ _ _ (agM m2)).trans (kp b o m1 e)
 |succ k ih=>
  intro j s vb c e1 e2 st pb gB fin;have lt:j+1<n:=by omega
  refine agF F.entry_min_loop ?_;rw[afM aic _];refine aaN (wpAny_seqItems gB rfl ?_);refine aaN (aiI (W.item (j+1) s _ _ lt st λv h1 t1 pv uH kp=>?_));have qA:=kp B _ nB gB;show wpAny (model prog w) A.in1 (tryCatch (holding [v,v] (richCompare .Lt v vb >>= _)) _ >>= _) _ _ _;refine aaN (aiI (agJ (aaN (DS (j+1) (argBest bt j) v vb _ _ _ pv pb ?_))));refine aaN (agJ (agh (aaN (wpAny_letGo (acp ?_)))));cases hb:bt (j+1) (argBest bt j) with
  |true=>
   simp only[if_true];refine aaN (aiQ qA rfl (aaN (wpAny_letGo ?_)));rw[BO];refine acp #[aik aic _,ih (j + 1) _ v _ (by omega) lt (W.frame _ _ _ uH λb m o e=>(aeQ _ _ (λz:B=b=>hB (by rw[z];apply m))).trans e)
    (by simp only[argBest,hb,if_true];apply pv) (aid _ qA rfl) λv2 h2 t2 p2 k2=>?_]
   apply fin v2 h2 t2 p2 λb o m1 m2 e=>k2 b o m1 m2 ((aeQ _ _ (agM m2)).trans (kp b o m1 e))
  |false=>
   simp only[aii,if_false];refine aaN (wpAny_letGo ?_);rw[BO];refine acp #[aik aic _,ih (j+1) _ vb c (by omega) lt uH (by simp only[argBest,hb,aii,if_false];apply pb) qA λv2 h2 t2 p2 k2=>?_];apply fin v2 h2 t2 p2 λb o m1 m2 e=>k2 b o m1 m2 (kp b o m1 e)
def Wg(W:Walks prog w A.in1 it gm jP n P T)(bt:Nat->Nat->Bool)(DS:CmpOf prog w A.in1 .Lt P bt)(key:Str)(dv:Value)(B:Addr)(hB:B∉gm){s:Shared}{c:Nat}(st:T 0 s.heap)
  (gB:s.heap.get? B=some { cls:=.type "list",dict:=none,data:=.seq ([].toArray) c,slots:=([].toArray) })
  (fin:∀v h' tk,(n=0/\v=dv\/0<n/\P (argBest bt (n-1)) v)->(∀b o,b∉jP->b≠B->s.heap.get? b=some o->h'.get? b=some o)->R (.ok (.ret v)) { s with heap:=h',toks:=tk }) :
  codeAny (model prog w) A (.builtin "min.loop" #[[.ref it,.none,.ref B],[(key,dv)]]) R s:=by
 have nB:B∉jP:=λm=>hB (W.sub _ m)
 refine agF F.entry_min_loop ?_;rw[afM aic _];refine aaN (wpAny_seqItems gB rfl ?_)
 by_cases hn:0<n
 .refine aaN (aiI (W.item 0 s _ _ hn st λv h1 t1 pv uH kp=>?_));have qA:=kp B _ nB gB;show wpAny (model prog w) A.in1 (updateSeq B (λ_=>([v,v].toArray)) >>= _) _ _ _;refine aaN (aiQ qA rfl ?_);rw[BO];refine acp #[aik aic _,ahu W bt DS _ B hB _ 0 _ v _ rfl hn (W.frame _ _ _ uH λb m o e=>(aeQ _ _ (λz:B=b=>hB (by rw[z];apply m))).trans e) pv (aid _ qA rfl) λv2 h2 t2 p2 k2=>?_];apply fin v2 h2 t2 (.inr #[hn,p2]) λb o m1 m2 e=>k2 b o m1 m2 ((aeQ _ _ (agM m2)).trans (kp b o m1 e))
 .have en:n=0:=by lia
  refine aaN (aiI (W.done s _ _ (en ▸ st) λh1 t1 kp=>?_));apply aaN (wpAny_rule (acp (fin dv h1 t1 (.inl #[en,rfl]) λb o m1 _ e=>kp b o m1 e)))
def Ux{id:String}{b:Builtin}{kw:List (Str×Value)}(hk:builtinKind id=none)(hp:plainId id=true)(hb:entryFor table id=some b)(ha:argsOk id #[args,kw])
  (hc:wpAny (model prog w) A.in1 (b #[args,kw]) (λfin s'=>match fin with
   |.done f=>(match(Except.ok f:Result) with|.ok (.ret v)=>Q v s'|.ok _=>False|.error e=>E e s')
   |.again c=>c.quiet=true/\codeAny (model prog w) A c (λr s'=>match r with|.ok (.ret v)=>Q v s'|.ok _=>False|.error e=>E e s') s') E s):wpAny (model prog w) A (call (.builtin id) args kw) Q E s:=by
 refine wpAny_call (codeAny_call_builtin hp hb ?_);simp only[checkBuiltinCall,hk];cases WG:Manifest.signature? id with
 |none=>apply acp hc
 |some sig=>
  have h2:Bind.checkArgs id sig #[args,kw]=pure ():=by simpa only[argsOk,WG] using ha
  simp only[h2];apply acp hc
theorem Qz:∀{vs} {ns} {i} {v},IntsAre vs ns->vs[i]? = some v->∃t,v=Value.int (ns.getD i 0) t
 |_,_,_,_,.nil,e=>by simp at e
 |_,_,0,_,.cons n t h,e=>by
  have e':=ach e;subst e';apply#[t,rfl]
 |_,_,i+1,v,.cons n t h,e=>by
  let#[u,eu]:=Qz h (by simpa using e);apply#[u,by simpa using eu]
def Zr{ns:List Int}(h:i<ns.length):ns.getD i 0∈ns:=by
 rw[adA,abm h];apply List.getElem_mem h
def agu{l:Addr}{vs:List Value}{ns:List Int}{dv:Value}{Q:Value->Shared->Prop}(hh:A.handled=none)(hl:s.heap.IsList l vs.toArray)(hi:IntsAre vs ns)
  (fin:∀v h' tk,(ns=[]/\v=dv\/∃m t,v=.int m t/\m∈ns/\∀x∈ns,m<=x)->(∀b o,s.heap.get? b=some o->h'.get? b=some o)->Q v { s with heap:=h',toks:=tk }) :
  wpAny (model prog w) A (call (.builtin "min") [.ref l] [("default",dv)]) Q E s:=by
 refine Ux F.kind_min F.plain_min F.entry_min (ab1 _ _) ?_;refine aaN (wpAny_of_eq (show Builtin.Builtins.bindParams "min" ["key","default"] 0 #[[],[("default",dv)]]=pure [none,some dv] from rfl) ?_);refine aaN (acp (aaN (wpAny_pyIter_list hl ?_)));refine aaN (ahV ?_);rw[BO];have MA:l<s.heap.objs.size:=let#[_,ho,_]:=hl;abh ho
 have hsz:(s.heap.push { cls:=.type "list_iterator",data:=.fields ([.ref l,.int 0 0].toArray) }).objs.size=s.heap.objs.size+1:=aiA ..;have hv:∀(i) (v),vs.toArray[i]? = some v->∃t,v=Value.int (ns.getD i 0) t:=λi v e=>Qz hi (by simpa using e)
 have hlen:=hi.length;generalize zq:s.heap.push { cls:=.type "list_iterator",data:=.fields ([.ref l,.int 0 0].toArray) }=h1 at *;have g1:h1.get? s.heap.objs.size=some { cls:=.type "list_iterator",data:=.fields ([.ref l,.int 0 0].toArray) }:=by rw[<- zq];apply ab4 _ rfl
 have old:∀b o,s.heap.get? b=some o->h1.get? b=some o:=λb o e=>by rw[<- zq];apply aaA _ e
 have nl:=acV MA;have W:=Walks.list (prog:=prog) (w:=w) (A:=A.in1.in1) hh s.heap.objs.size l nl vs.toArray;have hB:h1.objs.size∉[s.heap.objs.size,l]:=by
  intro m;rcases aaO.mp m with z|z
  .rw[hsz] at z;apply absurd z (ahU (aix _))
  .have z:=aav.mp z;rw[hsz] at z;apply absurd z (ahU (aiW MA))
 refine acp #[aik aic _,Wg W.of_in1 (λi j=>decide (ns.getD i 0<ns.getD j 0)) (CmpOf.ints_lt (λi=>ns.getD i 0) hv) _ dv h1.objs.size hB ?_ (ab4 _ rfl) λv h' tk CY kp=>?_]
 .exact#[#[_,aaA _ g1,rfl,rfl],hl.at λo e=>aaA _ (old l o e)]
 .refine fin v h' tk ?_ λb o e=>kp b o ?_ ?_ (aaA _ (old b o e))
  .have ck:vs.toArray.size=ns.length:=by rw[abK,hlen]
   rw[ck] at CY;rcases CY with⟨h0,e⟩|⟨h0,pv⟩
   .exact .inl #[aht h0,e]
   .let#[t,e]:=hv _ v pv;let#[a1,a2]:=argBest_lt (λi=>ns.getD i 0) (ns.length-1);refine .inr #[_,t,e,Zr (by omega),λx hx=>?_];let#[j,hj,rfl]:=List.getElem_of_mem hx;have:=a2 j (by omega);rw[show ns[j]=ns.getD j 0 by rw[adA,abm hj];rfl];apply this
  .intro m;apply absurd (abh e) (by rw[aav.mp m];apply afO _)
  .intro z;apply absurd (abh e) (by rw[z,hsz];apply Nat.not_lt.mpr (Nat.le_succ _))
def Yg(K:Fr)(ta td:TE):TE:=λU H Q=>ta U H λx H1=>td U H1 λy H2=>∃(l:Addr) (ns:List Int),x=.ref l/\bY K H2 l (ns.map V.int)/\((ns=[]/\Q y H2)\/ns≠[]/\∀m,m∈ns->(∀n∈ns,m<=n)->Q (.int m) H2)
def ZQ{b:Expr}{kp:Pos}(hc:X.calm=true)(hm:X.mg "min"=none)(ha:PE X a ta)(hb:PE X b td)(hg:Gl X "min":=by rfl)(hs:starEach [a] X.env=[(false,eval a X.env)]:=by rfl)
  (h1:backTo pos (starEach [a] X.env)=(false,eval a X.env)::backTo pos (starEach [] X.env):=by rfl) (h2:(backTo pos (starEach [a] X.env)).any (·.1)=false:=by rfl)
  (h3:(backToKw pos (keywordEach [#[some "default",b,kp]] X.env)).all (·.1.isSome)=true:=by rfl) (h4:(backToKw pos (keywordEach [#[some "default",b,kp]] X.env)).any (·.1.isNone)=false:=by rfl)
  (h5:(backToKw pos (keywordEach [#[some "default",b,kp]] X.env)).filterMap (·.1)=[("default":Str)]:=by rfl) :
  PE X (.Call (.Name "min" p) [a] [#[some "default",b,kp]] pos) (Yg X.K ta td):=by
 intro af s U H Q I h;refine agj (pN I hg hm (show bootBuiltins "min"=some (.builtin "min") by decide +kernel) ?_ (by decide) (by decide));refine callWith_kw ?_ h1 h2 h3 h4;rw[h5];refine y9 (cV ha fq hs pos af s U H (λvs H1=>match vs with|[x]=>td U H1 λy H2=>∃(l:Addr) (ns:List Int),x=.ref l/\bY X.K H2 l (ns.map V.int)/\((ns=[]/\Q y H2)\/ns≠[]/\∀m,m∈ns->(∀n∈ns,m<=n)->Q (.int m) H2)|_=>False) I h) λus s1 vs H1 I1 rv q1=>?_
 rcases vs with _|⟨x,_|⟨x2,r2⟩⟩
 .exact q1.elim
 .let#[u,rfl,ru]:=vals1 rv;refine kws_cons (cQ (hb af s1 U H1 _ I1 q1) ?_)
  rintro dv s2 ⟨y,H2,I2,ry,l,ns,ex,hq,q2⟩
  refine kws_nil ?_;subst ex;ext ru;let#[ay,ri,pl,hz]:=I2.list hq;refine agu (I2.ok.hd hc) pl.isList (intsAre_of ri) λv h' tk CY kp=>?_
  rcases CY with⟨en,ev⟩|⟨m,t,ev,n6,mV⟩
  .subst ev;rcases q2 with⟨_,q2⟩|⟨ne,_⟩
   .exact#[y,H2,I2.kept kp,ry,q2]
   .exact absurd en ne
  .subst ev;rcases q2 with⟨en,_⟩|⟨_,q2⟩
   .rw[en] at n6;ext n6
   .exact#[.int m,H2,I2.kept kp,#[t,rfl],q2 m n6 mV]
 .exact q1.elim
end L2
namespace PySem
def V3:typeLookup (.type "list") "keys"=pure none:=by rw[typeLookup_type,builtinLookup_eq_fast];kernel_rfl
def Ww:typeLookup (.type "tuple") "keys"=pure none:=by rw[typeLookup_type,builtinLookup_eq_fast];kernel_rfl
def XJ(hx:s.heap.get? a=some { cls:=.type "list",dict:=none,data:=.seq xs k,slots:=sl })(hA:A.handled=none)
  (h:∀h' tk,(∀b o,s.heap.get? b=some o->h'.get? b=some o)->Q none { s with heap:=h',toks:=tk }):wpAny (model prog w) A (getAttr? (.ref a) "keys") Q E s:=by
 let#[hp,g,d,tk,os]:=s;have hT:∀rZ,(#[hp,g,d,rZ,os]:Shared).TypeIs (.ref a) "list":=λ_=>#[_,hx,rfl]
 have f1:=sub_AttributeError;have f3:=F.slot_list_getattribute.lookup;have f4:=F.slot_list_getattribute.bind (.ref a);have f5:=am_list_getattr_none;unfold getAttr? getAttrBy? getAttrBy
 repeat (any_goals (first|assumption|exact hT _|((with_reducible show wpAny _ _ (call (Value.builtin "list.__getattribute__") _ _) _ _ _);refine call_meets F.slot_list_getattribute (hT _) am_entry_list_getattribute (F.args_list_getattribute_2 _ _) (meets_getattribute_miss_list a xs k sl "keys" _ V3 (by decide +kernel)) #[hx,hA,λh' rZ e xy=>?_])|wp_step))
 let#[t',u',he]:=xy.there;unfold getattributeRaised
 repeat (any_goals (first|assumption|wp_step))
 all_goals apply h _ _ xy.keeps
def YL(hx:s.heap.get? a=some { cls:=.type "tuple",dict:=none,data:=.seq xs k,slots:=sl })(hA:A.handled=none)
  (h:∀h' tk,(∀b o,s.heap.get? b=some o->h'.get? b=some o)->Q none { s with heap:=h',toks:=tk }):wpAny (model prog w) A (getAttr? (.ref a) "keys") Q E s:=by
 let#[hp,g,d,tk,os]:=s;have hT:∀rZ,(#[hp,g,d,rZ,os]:Shared).TypeIs (.ref a) "tuple":=λ_=>#[_,hx,rfl]
 have f1:=sub_AttributeError;have f3:=F.slot_tuple_getattribute.lookup;have f4:=F.slot_tuple_getattribute.bind (.ref a);have f5:=am_tuple_getattr_none;unfold getAttr? getAttrBy? getAttrBy
 repeat (any_goals (first|assumption|exact hT _|((with_reducible show wpAny _ _ (call (Value.builtin "tuple.__getattribute__") _ _) _ _ _);refine call_meets F.slot_tuple_getattribute (hT _) am_entry_tuple_getattribute (F.args_tuple_getattribute_2 _ _) (meets_getattribute_miss_tuple a xs k sl "keys" _ Ww (by decide +kernel)) #[hx,hA,λh' rZ e xy=>?_])|wp_step))
 let#[t',u',he]:=xy.there;unfold getattributeRaised
 repeat (any_goals (first|assumption|wp_step))
 all_goals apply h _ _ xy.keeps
end PySem
namespace L2
open PySem PySem.Spec PyProof.Rows
def CL:plainId "dict.update.loop"=true:=by decide +kernel
def To:entryFor table "dict.update.loop"=some Builtin.«dict.update.loop»:=entryFor_of_fast (by kernel_rfl)
def pairAt{prog:Program}{w:World}{κ:Type}[DecidableEq κ](knd:KeyKind prog w κ)(h:Heap)(no:List Addr)(v:Value)(p:κ×Value):Prop:=∃a key,v=.ref a/\a∉no/\IsTup h a ([key,p.2].toArray)/\knd.is p.1 key=true
section
variable[DecidableEq κ]{knd:KeyKind prog w κ}
def abW(W:Walks prog w A.in1 it gm jP n P T)(hd:d∉gm)(h0:Heap)(ps:List (κ×Value))(hn:ps.length=n)(hP:∀i v,P i v->∃p,ps[i]? = some p/\pairAt knd h0 (d::jP) v p)(res:Value):
  ∀(k i) (s) (m) (Eo),n-i=k->i<=n->T i s.heap->s.heap.DictOf knd d m->m.length+(n-i)<=sizeLine->(∀b o,b∉d::jP->h0.get? b=some o->s.heap.get? b=some o)->
   (∀h' tk,h'.DictOf knd d ((ps.drop i).foldl (λm p=>stored m p.1 p.2) m)->(∀b o,b∉d::jP->h0.get? b=some o->h'.get? b=some o)->R (.ok (.ret res)) { s with heap:=h',toks:=tk })->
   codeAny (model prog w) A (.builtin "dict.update.loop" #[[.ref d,.ref it,.int i Eo,res],[]]) R s:=by
 have nd:d∉jP:=λm=>hd (W.sub _ m)
 intro k
 induction k with
 |zero=>
  intro i s m Eo e1 e2 st dm hz kp fin;have en:i=n:=by lia
  subst en;refine agF To ?_;rw[afM CL _];refine aaN (W.done s _ _ st λh1 t1 k1=>?_);refine aaN (acp (acp (fin h1 t1 ?_ λb o mb e=>k1 b o (λz=>mb (aab _ z)) (kp b o mb e))));rw[List.drop_eq_nil_of_le (by lia)];let#[o,es,ep,ho,r]:=dm;apply#[o,es,ep,k1 d o nd ho,r]
 |succ k ih=>
  intro i s m Eo e1 e2 st dm hz kp fin;have lt:i<n:=by lia
  refine agF To ?_;rw[afM CL _];refine aaN (W.item i s _ _ lt st λv h1 t1 pv uH k1=>?_);let#[p,ep,a,key,rfl,na,Wt,wQ]:=hP i v pv;have dm1:h1.DictOf knd d m:=by
   let#[o,es,ep,ho,r]:=dm;apply#[o,es,ep,k1 d o nd ho,r]
  let#[oa,Y_,hca,na',Z2]:=Wt;have ga:=k1 a oa (λz=>na (aab _ z)) (kp a oa na Y_);refine aaN (agJ ?_);refine aaN (aiI ?_);unfold Builtin.Dict.pairItems;refine aaN (wpAny_typeOf #[oa,ga,hca] ?_);rw[if_pos (by decide)];refine aaN (wpAny_seqItems ga Z2 (acp ?_));refine agJ (wpAny_dictSet_pairs wQ dm1 (λh2 U_ sb=>?_) (by lia));have M4:∀b o,b≠d->h1.get? b=some o->h2.get? b=some o:=λb o hb e=>(sb.2 b hb).trans e
  have rR:=W.frame _ _ _ uH λb mb o e=>M4 b o (λz=>hd (by rw[<- z];apply mb)) e
  have m_:(stored m p.1 p.2).length<=m.length+1:=by
   unfold stored
   split
   .rw[List.length_map];apply Nat.le_succ _
   .rw[aa3];apply abD _
  refine acp #[aik CL _,?_];refine ih (i+1) _ (stored m p.1 p.2) 0 (by lia) lt rR U_ (by lia) (λb o mb e=>M4 b o (λz=>mb (by rw[z];apply aah)) (k1 b o (λz=>mb (aab _ z)) (kp b o mb e))) λh3 t3 JE k3=>?_
  refine fin h3 t3 ?_ k3;have hi:i<ps.length:=by lia
  have yS:ps[i]=p:=by rw[abm hi] at ep;apply ach ep
  rw[aiJ hi,aeO,yS];apply JE
def R4(ps:List (κ×Value))(hz:ps.length<=sizeLine)(T0:String)(WW:(Value.type T0 != Value.type "dict")=true)
  (Ho:∀o,({ s with heap:=s.heap.push o }:Shared).TypeIs x T0)
  (hk:∀(o) (Q') (E'),(∀h' tk,(∀b ob,(s.heap.push o).get? b=some ob->h'.get? b=some ob)->Q' none { s with heap:=h',toks:=tk })->wpAny (model prog w) A.in1.in1 (getAttr? x "keys") Q' E' { s with heap:=s.heap.push o })
  (hi:∀(s2) (Q') (E'),(∀b ob,s.heap.get? b=some ob->s2.heap.get? b=some ob)->(∃o,s2.heap.get? s.heap.objs.size=some o)->
   (∀I gm jP n P T h3,Walks prog w A.in1.in1 I gm jP n P T->T 0 h3->ps.length=n->s.heap.objs.size∉gm->(∀b ob,s2.heap.get? b=some ob->h3.get? b=some ob)->(∀b∈jP,s.heap.get? b=none)->(∀i v,P i v->∃p,ps[i]? = some p/\pairAt knd s.heap (s.heap.objs.size::jP) v p)->Q' (.ref I) { s2 with heap:=h3 })->
   wpAny (model prog w) A.in1.in1 (pyIter x) Q' E' s2)
  (h:∀h' tk,h'.DictOf knd s.heap.objs.size (ps.foldl (λm p=>stored m p.1 p.2) [])->(∀b o,s.heap.get? b=some o->h'.get? b=some o)->Q (.ref s.heap.objs.size) { s with heap:=h',toks:=tk }) :
  wpAny (model prog w) A (call (.type "dict") [x]) Q E s:=by
 refine callType_codes (Q₁:=λobj bQ=>obj=.ref s.heap.objs.size/\bQ={ s with heap:=s.heap.push { cls:=.type "dict",data:=.dict ([].toArray) } }) F.kt_called_dict (F.kt_typeCall_dict_1 _) F.entry_dict_init (kt_code_dict_new _ #[rfl,rfl]) ?_
 rintro obj bQ ⟨rfl,rfl⟩
 have JM:(s.heap.push { cls:=.type "dict",data:=.dict ([].toArray) }).DictOf knd s.heap.objs.size []:=Heap.DictOf.new s.heap;refine#[JM.typeIs,F.args_dict_init_2 _ _,?_];unfold Builtin.«dict.__init__»;refine aaN ?_;unfold Builtin.Dict.selfAndRest;refine aaN (wpAny_notOrdered_dict JM.typeIs ?_);refine acp ?_;show wpAny (model prog w) _ (Builtin.Dict.updateFrom "dict.__init__" s.heap.objs.size x [] .none) _ _ _;unfold Builtin.Dict.updateFrom;refine aaN (wpAny_typeOf (Ho _) ?_);rw[if_pos WW];refine aaN (hk _ _ _ λh1 t1 k1=>?_);refine aaN (wpAny_rule (aaN ?_));have o1:∀b ob,s.heap.get? b=some ob->h1.get? b=some ob:=λb ob e=>k1 b ob (aaA _ e)
 refine hi { s with heap:=h1,toks:=t1 } _ _ o1 #[_,k1 _ _ (ab4 _ rfl)] (λI gm jP n P T h3 W st hn hd k3 hw hP=>?_);have JE:h3.DictOf knd s.heap.objs.size []:=by
  let#[o,es,ep,ho,r]:=JM;apply#[o,es,ep,k3 _ o (k1 _ o ho),r]
 refine acp #[aik CL _,abW W hd s.heap ps hn hP .none n 0 _ [] 0 rfl (ade _) st JE (by rw[List.length_nil];lia) (λb o _ e=>k3 b o (o1 b o e)) λh4 t4 dm4 k4=>?_];refine#[rfl,h h4 t4 (by simpa using dm4) λb o e=>k4 b o (λm=>?_) e];rcases aaO.mp m with z|z
 .exact absurd (abh e) (by rw[z];apply afO _)
 .rw[hw b z] at e;ext e
end
theorem Px[DecidableEq κ]:∀{ps} {qs} {m}{r:List (κ×Value)},KV ps qs->KV m r->KV (ps.foldl (λm p=>putK m p.1 p.2) m) (qs.foldl (λm p=>stored m p.1 p.2) r)
 |_,_,_,_,.nil,h=>h
 |_,_,_,_,.cons (a:=p) e t,h=>by
  rw[aeO,aeO];refine Px t ?_;rw[<- e.1];apply h.put p.1 e.2
def Ey(K:Fr):List V->Hp->VK->Prop:=λxs H Q=>∃(p:Addr) (ys:List V) (ps:List (Key×V)),xs=[.ref p]/\(bY K H p ys\/cE K H p ys)/\Paired (λy (q:Key×V)=>∃a,y=.ref a/\cE K H a [kV q.1,q.2]) ys ps/\
 ∀l,H l=none->Q (.ref l) (upd H l (.dK (ps.foldl (λm q=>putK m q.1 q.2) [])))
theorem E2(I:Inv X af U H s):∀{ys} {ps} {ay},Paired (λy (q:Key×V)=>∃a,y=.ref a/\cE X.K H a [kV q.1,q.2]) ys ps->aR ys ay->
  ∃qs:List (Key×Value),KV ps qs/\∀(i:Nat) (v),ay[i]? = some v->∃q,qs[i]? = some q/\∃a key,v=.ref a/\IsTup s.heap a ([key,q.2].toArray)/\(ie X.prog X.w).is q.1 key=true
 |_,_,_,.nil,.nil=>#[[],.nil,λi v e=>by simp at e]
 |_,_,_,.cons (b:=q) #[a,ey,hr] t,.cons (b:=u) r rs=>by
  let#[qs,h1,h2]:=E2 I t rs;subst ey;ext r;let#[us,ru,pt,_]:=I.tuple hr;let#[key,x,rfl,rk,rx]:=vals2 ru;refine#[(q.1,x)::qs,.cons #[rfl,rx] h1,λi v e=>?_];cases i with
  |zero=>
   have e':=ach e;subst e';apply#[_,rfl,a,key,rfl,pt,tQ rk]
  |succ i=>
   let#[q',e1,e2]:=h2 i v (by simpa using e);apply#[q',by simpa using e1,e2]
def Yr(hc:X.calm=true):gI X (.type "dict") (Ey X.K):=by
 intro af s U H xs us Q I r h;let#[p,ys,ps,rfl,Jc,tX,q]:=h;let#[u,rfl,ru]:=vals1 r;ext ru;have hh:=I.ok.hd hc;have big:=I.big;have fin:∀(ay:List Value) (qs:List (Key×Value)),KV ps qs->ys.length<=sizeLine->∀h' tk,h'.DictOf (ie X.prog X.w) s.heap.objs.size (qs.foldl (λm p=>stored m p.1 p.2) [])->(∀b o,s.heap.get? b=some o->h'.get? b=some o)->
   EP X af U Q (.ref s.heap.objs.size) { s with heap:=h',toks:=tk }:=by
  intro ay qs qe hz h' tk dm kp;have rel:=Px qe .nil;have tW:∀(l:List (Key×V)) (m),(l.foldl (λm q=>putK m q.1 q.2) m).length<=m.length+l.length:=by
   intro l
   induction l with
   |nil=>intro m;apply abD _
   |cons a l ih=>
    intro m;rw[aeO];have h1:=ih (putK m a.1 a.2);have h2:=Dy m a.1 a.2;rw[acF]
    lia
  have hl:=(Paired.length tX).symm;refine#[.ref s.heap.objs.size,_,I.laid kp (abD _) (KL ?_ (ad3.mpr (agM (acV big))) rel dm),rfl,q _ (I.aG.fresh (abD _))];have:=tW ps [];rw[List.length_nil] at this
  lia
 have CD:∀{qs},KV ps qs->qs.length=ys.length:=λh=>by rw[<- h.length];apply(Paired.length tX).symm
 have qV:∀{s2:Shared},(∃o,s2.heap.get? s.heap.objs.size=some o)->s.heap.objs.size<s2.heap.objs.size:=λ⟨_,e⟩=>abh e
 rcases Jc with hq|hq
 .let#[ay,rv,pl,hz]:=I.list hq;let#[qs,qe,vS]:=E2 I tX rv;let#[o,n,ho,lC,yX,mO]:=pl;have hp:=abh ho;refine R4 qs (by rw[CD qe];apply hz) "list" (by decide) (λob=>#[o,aaA _ ho,lC]) (λob Q' E' k=>?_) (λs2 Q' E' o2 hS k=>?_) (λh' tk dm kp=>fin ay qs qe hz h' tk dm kp)
  .let#[c0,d0,dt0,sl0]:=o;dsimp only at lC yX mO;subst lC yX mO;apply XJ (aaA _ ho) hh λh1 t1 kp=>k h1 t1 kp
  .have m_:s2.heap.IsList p ay.toArray:=#[o,o2 p o ho,lC,n,mO]
   refine wpAny_pyIter_list m_ (k s2.heap.objs.size [s2.heap.objs.size,p] [s2.heap.objs.size] _ _ _ _ (Walks.list (A:=X.A.in1.in1) hh s2.heap.objs.size p (acV (Nat.lt_trans hp (qV hS))) ay.toArray) #[#[_,ab4 _ rfl,rfl,rfl],m_.push _] (by rw[CD qe,abK,<- rv.length]) ?_ (λb ob e=>aaA _ e) ?_ λi v e=>?_)
   .intro m;rcases aaO.mp m with z|z
    .exact absurd z (acV (qV hS))
    .exact absurd (aav.mp z) (ahU hp)
   .intro b m;rw[aav.mp m];apply aiH (af4 (qV hS))
   .let#[q',e1,a,key,e2,e3,e4]:=vS i v (by simpa using e);refine#[q',e1,a,key,e2,λm=>?_,e3,e4];let#[oa,ha,_]:=e3;rcases aaO.mp m with z|z
    .exact absurd (abh ha) (by rw[z];apply afO _)
    .exact absurd (abh ha) (by rw[aav.mp z];apply Nat.not_lt.mpr (af4 (qV hS)))
 .let#[ay,rv,#[o,ho,lC,yX,n,mO],hz]:=I.Qy hq;let#[qs,qe,vS]:=E2 I tX rv;have hp:=abh ho;refine R4 qs (by rw[CD qe];apply hz) "tuple" (by decide) (λob=>#[o,aaA _ ho,lC]) (λob Q' E' k=>?_) (λs2 Q' E' o2 hS k=>?_) (λh' tk dm kp=>fin ay qs qe hz h' tk dm kp)
  .let#[c0,d0,dt0,sl0]:=o;dsimp only at lC yX mO;subst lC yX mO;apply YL (aaA _ ho) hh λh1 t1 kp=>k h1 t1 kp
  .have m_:s2.heap.IsTuple p ay.toArray:=#[o,o2 p o ho,lC,n,mO]
   refine wpAny_pyIter_tuple m_ (k s2.heap.objs.size [s2.heap.objs.size,p] [s2.heap.objs.size] _ _ _ _ (Walks.tuple (A:=X.A.in1.in1) hh s2.heap.objs.size p (acV (Nat.lt_trans hp (qV hS))) ay.toArray) #[#[_,ab4 _ rfl,rfl,rfl],m_.push _] (by rw[CD qe,abK,<- rv.length]) ?_ (λb ob e=>aaA _ e) ?_ λi v e=>?_)
   .intro m;rcases aaO.mp m with z|z
    .exact absurd z (acV (qV hS))
    .exact absurd (aav.mp z) (ahU hp)
   .intro b m;rw[aav.mp m];apply aiH (af4 (qV hS))
   .let#[q',e1,a,key,e2,e3,e4]:=vS i v (by simpa using e);refine#[q',e1,a,key,e2,λm=>?_,e3,e4];let#[oa,ha,_]:=e3;rcases aaO.mp m with z|z
    .exact absurd (abh ha) (by rw[z];apply afO _)
    .exact absurd (abh ha) (by rw[aav.mp z];apply Nat.not_lt.mpr (af4 (qV hS)))
end L2
namespace L2.Ev
open PySem PySem.Spec PyProof.Rows
structure VA(X:Cx)(i:Nat)(x:Str):Prop where
 N:X.N[i]? = some x
 v:HZ X.env.scope x
 d:(x==("__debug__":Str))=false
 c:(x==("__classdict__":Str))=false
def VA.pe(h:VA X i x):PE X (.Name x p) (Ke i):=YG h.N h.v h.d h.c
def x6(X:Cx)(o:Expr)(m:Str)(apos:Pos)(as:List Expr)(pos:Pos)(pl:Sem Bool):Prop:=eval (.Call (.Attribute o m apos) as [] pos) X.env=(do
   let ov <- eval o X.env
   standAt apos.atName
   let(f,first) <- holding [ov] (getMethod ov m pl)
   callWith pos f first (backTo pos (starEach as X.env)) (backToKw pos (keywordEach [] X.env)))
def SE(X:Cx)(e:Expr)(es:List Expr)(pos:Pos):Prop:=starEach (e::es) X.env=(false,eval e X.env)::starEach es X.env/\(backTo pos (starEach es X.env)).any (·.1)=false
def GD(X:Cx)(x:Str):Prop:=Gl X x/\(x==("__debug__":Str))=false
abbrev XN:=Str×Option Nat
inductive D where
 |aC|bl (b:Bool)|int (i:Int)|str (x:Str)|tup (ds:List D)|lst (ds:List D)|dH (ds:List D)|bS (ak:List (Key×D))|fY (ak:List (List Key×D))|ins (cn:Str) (fs:List (Str×D))|exc (cn:XN)
def qZ(K:Fr)(H:Hp)(a:Addr)(xs:List V):Prop:=(∃o,H a=some (.dZ o (.lst xs)))\/
 ∃(o:Obj) (ay:Array Value) (n:Nat),K.lookup a=some o/\o.cls=.type "list"/\o.dict=none/\o.data=.seq ay n/\ay.size<=sizeLine/\aR xs ay.toList
def qZ.sq{K:Fr}(h:qZ K H a xs):bY K H a xs:=h.elim (λz=>.inl (.inr z)) .inr
mutual
inductive Rep(K:Fr)(H:Hp):D->V->List Addr->Prop
 |aC:Rep K H .aC .aC []
 |bl (b:Bool):Rep K H (.bl b) (.bl b) []
 |int (i:Int):Rep K H (.int i) (.int i) []
 |str (x:Str):Rep K H (.str x) (.str x) []
 |tup {a:Addr}{xs:List V}{ds:List D}{fp:List Addr}:cE K H a xs->aE K H ds xs fp->Rep K H (.tup ds) (.ref a) fp
 |lst {a:Addr}{xs:List V}{ds:List D}{fp:List Addr}:H a=some (.lst xs)->aE K H ds xs fp->Rep K H (.lst ds) (.ref a) (a::fp)
 |uT {a:Addr}{xs:List V}{ds:List D}{fp:List Addr}:qZ K H a xs->aE K H ds xs fp->Rep K H (.dH ds) (.ref a) fp
 |bS {a:Addr}{ak:List (Key×V)}{es:List (Key×D)}{fp:List Addr}:H a=some (.dK ak)->es.map (·.1)=ak.map (·.1)->aE K H (es.map (·.2)) (ak.map (·.2)) fp->Rep K H (.bS es) (.ref a) (a::fp)
 |fY {a:Addr}{ak:List (List Key×V)}{es:List (List Key×D)}{fp:List Addr}:H a=some (.dT ak)->es.map (·.1)=ak.map (·.1)->aE K H (es.map (·.2)) (ak.map (·.2)) fp->Rep K H (.fY es) (.ref a) (a::fp)
 |ins {cn:Str}{a C dx:Addr}{fs:List (Str×V)}{es:List (Str×D)}{fp:List Addr}:PySem.W.nsIn K mainGlobals cn=some (some (.ref C))->H a=some (.ins C dx fs)->H dx=some (.own a)->es.map (·.1)=fs.map (·.1)->aE K H (es.map (·.2)) (fs.map (·.2)) fp->Rep K H (.ins cn es) (.ref a) (a::dx::fp)
 |exc {cn:XN}{a C:Addr}{de:Option Addr}{ob:Obj}:PySem.W.nsIn K mainGlobals cn.1=some (some (.ref C))->H a=some (v8 ob a (.ref C) de)->(∀n,cn.2=some n->∃dx,de=some dx/\H dx=some (GO dx n))->Rep K H (.exc cn) (.ref a) []
inductive aE(K:Fr)(H:Hp):List D->List V->List Addr->Prop
 |nil:aE K H [] [] []
 |cons {d:D}{v:V}{ds:List D}{vs:List V}{f1 f2:List Addr}:Rep K H d v f1->aE K H ds vs f2->aE K H (d::ds) (v::vs) (f1++f2)
end
def bh(H H':Hp):Prop:=(∀a xs,H a=some (.tup xs)->H' a=some (.tup xs))/\(∀a o u,H a=some (.dZ o u)->H' a=some (.dZ o u))/\∀a φ,H a=some (.ext φ)->H' a=some (.ext φ)
def bh.Vd{K:Fr}(i:bh H H')(h:cE K H a xs):cE K H' a xs:=by
 rcases h with(h|⟨o,h⟩)|h
 .exact .inl (.inl (i.1 _ _ h))
 .exact .inl (.inr #[o,i.2.1 _ _ _ h])
 .exact .inr h
def bh.dZ{K:Fr}(i:bh H H')(h:qZ K H a xs):qZ K H' a xs:=by
 rcases h with⟨o,h⟩|h
 .exact .inl #[o,i.2.1 _ _ _ h]
 .exact .inr h
def bh.of(h:aI H H'):bh H H':=#[λ_ _ e=>h _ _ e,λ_ _ _ e=>h _ _ e,λ_ _ e=>h _ _ e]
def bh.trans(a:bh H H1)(b:bh H1 H2):bh H H2:=#[λ_ _ e=>b.1 _ _ (a.1 _ _ e),λ_ _ _ e=>b.2.1 _ _ _ (a.2.1 _ _ _ e),λ_ _ e=>b.2.2 _ _ (a.2.2 _ _ e)]
def lJ:HO->Bool
 |.lst _|.dK _|.dT _|.ins _ _ _|.own _=>true
 |_=>false
theorem bh.upd(h:H p=some o)(m:lJ o=true):bh H (upd H p o'):=by
 refine#[λa xs e=>?_,λa q u e=>?_,λa q e=>?_]
 .rw[aN]
  .exact e
  .rintro rfl;rw[h] at e;ext e;ext m
 .rw[aN]
  .exact e
  .rintro rfl;rw[h] at e;ext e;ext m
 .rw[aN]
  .exact e
  .rintro rfl;rw[h] at e;ext e;ext m
section
variable{K:Fr}
def Rep.frame(r:Rep K H d v fp)(k:∀a∈fp,H' a=H a)(i:bh H H'):Rep K H' d v fp:=
 Rep.rec (motive_2:=λd v fp _=>(∀a∈fp,H' a=H a)->aE K H' d v fp) (λ_=>.aC) (λb _=>.bl b) (λn _=>.int n) (λx _=>.str x) (λh _ r k=>.tup (i.Vd h) (r k))
  (λh _ r k=>.lst ((k _ (.head _)).trans h) (r λa m=>k a (.tail _ m))) (λh _ r k=>.uT (i.dZ h) (r k)) (λh e _ r k=>.bS ((k _ (.head _)).trans h) e (r λa m=>k a (.tail _ m))) (λh e _ r k=>.fY ((k _ (.head _)).trans h) e (r λa m=>k a (.tail _ m)))
  (λg h h2 e _ r k=>.ins g ((k _ (.head _)).trans h) ((k _ (.tail _ (.head _))).trans h2) e (r λa m=>k a (.tail _ (.tail _ m)))) (λg h p _=>.exc g (i.2.1 _ _ _ h) λn e=>(p n e).imp λ_ q=>#[q.1,i.2.2 _ _ q.2])
  (λ_=>.nil) (λ_ _ h t k=>.cons (h λa m=>k a (aa4 _ m)) (t λa m=>k a (aaS _ m))) r k
def aE.frame:∀{ds} {vs} {fp},aE K H ds vs fp->(∀a∈fp,H' a=H a)->bh H H'->aE K H' ds vs fp
 |_,_,_,.nil,_,_=>.nil
 |_,_,_,.cons h t,k,i=>.cons (h.frame (λa m=>k a (aa4 _ m)) i) (aE.frame t (λa m=>k a (aaS _ m)) i)
def Rep.dW(r:Rep K H d v fp):∀a∈fp,∃o,H a=some o/\lJ o=true:=by
 have c:∀{b} {o} {f},H b=some o->lJ o=true->(∀a∈f,∃o,H a=some o/\lJ o=true)->∀a∈b::f,∃o,H a=some o/\lJ o=true:=λh m r a=>λ| .head _=>#[_,h,m]|.tail _ z=>r a z
 have n:∀a∈([]:List Addr),∃o,H a=some o/\lJ o=true:=λ_ m=>nomatch m
 apply Rep.rec n (λ_=>n) (λ_=>n) (λ_=>n) (λ_ _ r=>r) (λh _ r=>c h rfl r) (λ_ _ r=>r) (λh _ _ r=>c h rfl r) (λh _ _ r=>c h rfl r)
  (λ_ h h2 _ _ r=>c h rfl (c h2 rfl r)) (λ_ _ _=>n) n (λ_ _ h t a m=>(abC.mp m).elim (h a) (t a)) r
def aE.dW:∀{ds} {vs} {fp},aE K H ds vs fp->∀a∈fp,∃o,H a=some o/\lJ o=true
 |_,_,_,.nil,_,m=>nomatch m
 |_,_,_,.cons h t,a,m=>(abC.mp m).elim (h.dW a) (aE.dW t a)
def Rep.same(h:Rep K H d v fp)(s:aI H H'):Rep K H' d v fp:=
 h.frame (λa m=>let#[o,e,_]:=h.dW a m;(s a o e).trans e.symm) (.of s)
def aE.same(h:aE K H ds vs fp)(s:aI H H'):aE K H' ds vs fp:=
 h.frame (λa m=>let#[o,e,_]:=h.dW a m;(s a o e).trans e.symm) (.of s)
def aE.length:∀{ds} {vs} {fp},aE K H ds vs fp->ds.length=vs.length
 |_,_,_,.nil=>rfl
 |_,_,_,.cons _ t=>by rw[acF,acF,aE.length t]
def aE.get:∀{ds} {vs} {fp}{i:Nat} {d},aE K H ds vs fp->ds[i]? = some d->∃v f,vs[i]? = some v/\Rep K H d v f/\∀a∈f,a∈fp
 |_,_,_,_,_,.nil,e=>by simp at e
 |_,_,_,0,_,.cons h t,e=>by
  have e':=ach e;subst e';apply#[_,_,rfl,h,λa m=>aa4 _ m]
 |_,_,_,i+1,d,.cons h t,e=>by
  let#[v,f,e1,r,s]:=aE.get t (by simpa using e);apply#[v,f,by simpa using e1,r,λa m=>aaS _ (s a m)]
def aE.append:∀{ds es} {vs ws} {f g},aE K H ds vs f->aE K H es ws g->aE K H (ds++es) (vs++ws) (f++g)
 |_,_,_,_,_,_,.nil,s=>s
 |_,_,_,_,_,g,.cons h t,s=>by
  rw[ae4];apply .cons h (aE.append t s)
end
def Rep.jm{K:Fr}(r:Rep K H (.int i) v fp):v=.int i/\fp=[]:=by ext r;apply#[rfl,rfl]
def Rep.Cr{K:Fr}(r:Rep K H (.bl i) v fp):v=.bl i/\fp=[]:=by ext r;apply#[rfl,rfl]
def Rep.zp{K:Fr}(r:Rep K H (.str i) v fp):v=.str i/\fp=[]:=by ext r;apply#[rfl,rfl]
def Rep.Ao{K:Fr}(r:Rep K H .aC v fp):v=.aC/\fp=[]:=by ext r;apply#[rfl,rfl]
mutual
def aH:D->Bool
 |.lst _|.bS _|.fY _|.ins _ _=>false
 |.tup ds=>aP ds
 |.dH ds=>aP ds
 |_=>true
def aP:List D->Bool
 |[]=>true
 |d::ds=>aH d&&aP ds
end
section
variable{K:Fr}
theorem Rep.aH(r:Rep K H d v fp)(e:aH d=true):fp=[]:=
 Rep.rec (motive_2:=λds _ fp _=>aP ds=true->fp=[]) (λ_=>rfl) (λ_ _=>rfl) (λ_ _=>rfl) (λ_ _=>rfl) (λ_ _ r e=>r (by rw[L2.Ev.aH] at e;apply e)) (λ_ _ _ e=>by delta L2.Ev.aH at e;ext e) (λ_ _ r e=>r (by rw[L2.Ev.aH] at e;apply e))
  (λ_ _ _ _ e=>by delta L2.Ev.aH at e;ext e) (λ_ _ _ _ e=>by delta L2.Ev.aH at e;ext e) (λ_ _ _ _ _ _ e=>by delta L2.Ev.aH at e;ext e) (λ_ _ _ _=>rfl) (λ_=>rfl) (λ_ _ h t e=>by
   rw[aP,aaV] at e;rw[h e.1,t e.2];rfl) r e
def aE.aH:∀{ds} {vs} {fp},aE K H ds vs fp->aP ds=true->fp=[]
 |_,_,_,.nil,_=>rfl
 |_,_,_,.cons h t,e=>by
  rw[aP,aaV] at e;rw[h.aH e.1,aE.aH t e.2];rfl
end
inductive Tag where
 |own|lk|sh (o:List Nat)
abbrev Slot:=Option (D×Tag)
abbrev aU:=List Slot
def vf(z:Addr->Option Nat)(i:Nat):Tag->List Addr->Prop
 |.sh o,fp=>∀a∈fp,∀j,z a=some j->j∈o
 |_,fp=>fp.Nodup/\∀a∈fp,z a=some i
def vR(Y:aU)(j:Nat):Prop:=∀d,Y[j]?≠some (some (d,.own))
structure rJ where
 d:D
 v:V
 fp:List Addr
 z0:Addr->Option Nat
structure Ok(K:Fr)(H0:Hp)(S:List Addr)(z:Addr->Option Nat)(au:List rJ)(Y:aU)(U:St)(H:Hp):Prop where
 sl:∀i d t,Y[i]? = some (some (d,t))->∃v fp,U[i]? = some (some v)/\Rep K H d v fp/\vf z i t fp
 hl:∀p∈au,Rep K H p.d p.v p.fp/\∀a∈p.fp,∀j,z a=some j->p.z0 a=some j/\vR Y j
 zd:∀a j,z a=some j->(∃o,H a=some o)/\(H0 a=none\/a∈S)
 en:∀a o,H0 a=some o->a∉S->H a=some o
 ln:Y.length=U.length
def Ok.same{K:Fr}(h:Ok K H0 S z au Y U H)(s:aI H H'):Ok K H0 S z au Y U H':=
 #[λi d t e=>let#[v,fp,a,b,c]:=h.sl i d t e;#[v,fp,a,b.same s,c],λp m=>let#[a,b]:=h.hl p m;#[a.same s,b],
  λa j e=>let#[#[o,x],y]:=h.zd a j e;#[#[o,s _ _ x],y],λa o e n=>s _ _ (h.en a o e n),h.ln]
def di(z:Addr->Option Nat)(H:Hp):Tag->List Addr->Prop
 |.sh o,fp=>∀a∈fp,∀j,z a=some j->j∈o
 |_,fp=>fp.Nodup/\∀a∈fp,H a=none
def di.nil:di z H t []:=by
 cases t with
 |sh o=>intro a m;ext m
 |own=>apply#[ac6,λa m=>nomatch m]
 |lk=>apply#[ac6,λa m=>nomatch m]
abbrev EF:=aU->Option (D×Tag)
def FP(X:Cx)(e:Expr)(f:EF):Prop:=∃t,PE X e t/\∀{H0} {S} {z} {au} {Y} {U} {H} {Q} {d} {tg},
 Ok X.K H0 S z au Y U H->f Y=some (d,tg)->(∀H' v fp,aI H H'->Rep X.K H' d v fp->di z H tg fp->Q v H')->t U H Q
abbrev AF:=aU->Option (List (D×Tag))
abbrev TF:=aU->Option Bool
def FT(X:Cx)(e:Expr)(f:TF):Prop:=∃t,PT X e t/\∀{H0} {S} {z} {au} {Y} {U} {H} {Q} {b},
 Ok X.K H0 S z au Y U H->f Y=some b->(∀H',aI H H'->Q b H')->t U H Q
def D8(i:Nat):Tag->Tag
 |.sh o=>.sh o
 |_=>.sh [i]
def aj(i:Nat):EF:=λY=>match Y[i]? with
 |some (some (d,t))=>some (d,D8 i t)
 |_=>none
def ah(i:Nat)(va:VA X i x:=by walk_at "va"):FP X (.Name x pos) (aj i):=by
 exists 20,va.pe;unfold aj at e;exists h,Y[i]?,s,e,0;cases s with
 |none=>rw[h] at e;ext e
 |some p=>
  let#[d',t]:=p;rw[h] at e;have e':=ach e;have e1:=congrArg Prod.fst e';have e2:=congrArg Prod.snd e';subst e1 e2;let#[v,fp,hs,r,zz]:=ok.sl i d' t h;refine#[v,hs,q H v fp (aI.refl H) r ?_];cases t with
  |sh o=>apply zz
  |own=>intro a m j ej;rw[zz.2 a m] at ej;ext ej;apply aah
  |lk=>intro a m j ej;rw[zz.2 a m] at ej;ext ej;apply aah
def eC(d:D):EF:=λ_=>some (d,.own)
def aD{i j pos}:FP X (.Constant (.int i) j pos) (eC (.int i)):=#[_,LA,@λ_ _ _ _ _ _ H _ _ _ _ e q=>by ext e;apply q H _ _ (aI.refl H) (.int i) .nil]
def eN{b j pos}:FP X (.Constant (.bool b) j pos) (eC (.bl b)):=#[_,Vc,@λ_ _ _ _ _ _ H _ _ _ _ e q=>by ext e;apply q H _ _ (aI.refl H) (.bl b) .nil]
def lR{j pos}:FP X (.Constant .none j pos) (eC .aC):=#[_,ae7,@λ_ _ _ _ _ _ H _ _ _ _ e q=>by ext e;apply q H _ _ (aI.refl H) .aC .nil]
def bK{x j pos}:FP X (.Constant (.str x) j pos) (eC (.str x)):=#[_,Wd,@λ_ _ _ _ _ _ H _ _ _ _ e q=>by ext e;apply q H _ _ (aI.refl H) (.str x) .nil]
def e2(op:D->D->Option D)(fa fb:EF):EF:=λY=>match fa Y,fb Y with
 |some (d1,_),some (d2,_)=>(op d1 d2).map λd=>(d,.own)
 |_,_=>none
def rD(e:e2 op fa fb Y=some (d,tg)):∃d1 t1 d2 t2,fa Y=some (d1,t1)/\fb Y=some (d2,t2)/\op d1 d2=some d/\tg=.own:=by
 unfold e2 at e;exists h1,fa Y,p,e,0;let#[d1,t1]:=p;cases h2:fb Y with
 |none=>rw[h1,h2] at e;ext e
 |some p=>
  let#[d2,t2]:=p;rw[h1,h2] at e;dsimp only at e;exists h3,op d1 d2,d3,e;ext e;apply#[d1,t1,d2,t2,rfl,rfl,h3,rfl]
def gK(K:Fr)(r:R2)(op:D->D->Option D):Prop:=∀(H) (x y) (d1 d2) (f1 f2) (d) (Q),Rep K H d1 x f1->Rep K H d2 y f2->op d1 d2=some d->
 (∀H' v,aI H H'->Rep K H' d v []->Q v H')->r x y H Q
def fp_2{a b e:Expr}(dd:gK X.K r op)(ha:FP X a fa)(hb:FP X b fb)(he:∀ta tb,PE X a ta->PE X b tb->PE X e (vB r ta tb)):FP X e (e2 op fa fb):=by
 let#[ta,pa,sa]:=ha;let#[tb,pb,sb]:=hb;exists 20,he ta tb pa pb;let#[d1,t1,d2,t2,e1,d7,e3,rfl]:=rD e;refine sa ok e1 λH1 x f1 s1 r1 _=>?_
 refine sb (ok.same s1) d7 λH2 y f2 s2 r2 _=>?_
 apply dd H2 x y d1 d2 f1 f2 d Q (r1.same s2) r2 e3 λH3 v s3 r3=>q H3 v [] ((s1.trans s2).trans s3) r3 .nil
end L2.Ev
namespace L2.Ev
open PySem PySem.Spec PyProof.Rows
def SD:Tag->Tag->Tag
 |.sh o,.sh p=>.sh (o++p)
 |.sh o,_=>.sh o
 |_,t=>t
def j4:List (D×Tag)->Tag
 |[]=>.own
 |p::r=>SD p.2 (j4 r)
def FA(X:Cx)(es:List Expr)(f:AF):Prop:=∃t,PA X es t/\(∀Y ps,f Y=some ps->ps.length=es.length)/\∀{H0} {S} {z} {au} {Y} {U} {H} {Q} {ps},
 Ok X.K H0 S z au Y U H->f Y=some ps->(∀H' vs fp,aI H H'->aE X.K H' (ps.map (·.1)) vs fp->di z H (j4 ps) fp->Q vs H')->t U H Q
def aA:AF:=λ_=>some []
def ao(f:EF)(g:AF):AF:=λY=>match f Y,g Y with
 |some p,some ps=>some (p::ps)
 |_,_=>none
def LG(e:ao f g Y=some ps):∃d t r,f Y=some (d,t)/\g Y=some r/\ps=(d,t)::r:=by
 unfold ao at e;exists h1,f Y,p,e,0;cases h2:g Y with
 |none=>rw[h1,h2] at e;ext e
 |some r=>
  rw[h1,h2] at e;ext e;apply#[p.1,p.2,r,rfl,rfl,rfl]
def di.join{K:Fr}(ok:Ok K H0 S z au Y U H)(s:aI H H1)
  (h1:di z H t1 f1) (d1:∀a∈f1,∃o,H1 a=some o/\lJ o=true) (h2:di z H1 t2 f2):di z H (SD t1 t2) (f1++f2):=by
 have nz:∀{a} {j},H a=none->z a=some j->False:=λ{a j} e q=>by
  let#[#[o,w],_]:=ok.zd a j q;rw[e] at w;ext w
 have both:∀{t1 t2:Tag},(f1.Nodup/\∀a∈f1,H a=none)->(f2.Nodup/\∀a∈f2,H1 a=none)->(f1++f2).Nodup/\∀a∈f1++f2,H a=none:=λp q=>by
  refine#[adQ.mpr #[p.1,q.1,λa m b m' e=>?_],λa m=>?_]
  .subst e;let#[o,w,_]:=d1 a m;rw[q.2 a m'] at w;ext w
  .rcases abC.mp m with m|m
   .exact p.2 a m
   .exact s.free (q.2 a m)
 cases t1 with
 |sh o=>
  have iC:=h1;cases t2 with
  |sh p=>
   intro a m j q;rcases abC.mp m with m|m
   .exact aa4 _ (iC a m j q)
   .exact aaS _ (h2 a m j q)
  |own=>
   intro a m j q;rcases abC.mp m with m|m
   .exact iC a m j q
   .exact(nz (s.free (h2.2 a m)) q).elim
  |lk=>
   intro a m j q;rcases abC.mp m with m|m
   .exact iC a m j q
   .exact(nz (s.free (h2.2 a m)) q).elim
 |own=>
  cases t2 with
  |sh p=>
   intro a m j q;rcases abC.mp m with m|m
   .exact(nz (h1.2 a m) q).elim
   .exact h2 a m j q
  |own=>apply both (t1:=.own) (t2:=.own) h1 h2
  |lk=>apply both (t1:=.own) (t2:=.own) h1 h2
 |lk=>
  cases t2 with
  |sh p=>
   intro a m j q;rcases abC.mp m with m|m
   .exact(nz (h1.2 a m) q).elim
   .exact h2 a m j q
  |own=>apply both (t1:=.own) (t2:=.own) h1 h2
  |lk=>apply both (t1:=.own) (t2:=.own) h1 h2
def aq:FA X [] aA:=#[_,fq,λ_ _ e=>by ext e;rfl,@λ_ _ _ _ _ _ H _ _ _ e q=>by ext e;apply q H _ _ (aI.refl H) .nil .nil]
def ai{e:Expr}{es:List Expr}(ha:FP X e f)(hr:FA X es g)(hs:starEach (e::es) X.env=(false,eval e X.env)::starEach es X.env:=by rfl):FA X (e::es) (ao f g):=by
 let#[t,p,q]:=ha;let#[t',p',l',q']:=hr;refine#[_,cV p p' hs,λY ps e=>by let#[d,tg,r,e1,e2,rfl]:=LG e;rw[acF,acF,l' Y r e2],@λH0 S z au Y U H Q ps ok e k=>?_];let#[d,tg,r,e1,e2,rfl]:=LG e;refine q ok e1 λH1 v f1 s1 r1 g1=>?_
 refine q' (ok.same s1) e2 λH2 vs f2 s2 r2 g2=>?_
 apply k H2 (v::vs) (f1++f2) (s1.trans s2) (.cons (r1.same s2) r2) (di.join ok s1 g1 r1.dW g2)
def ia(g:AF):EF:=λY=>(g Y).map λps=>(.tup (ps.map (·.1)),j4 ps)
def cD{x1}(h:FA X es g)(hl:es.length<=1000:=by decide):FP X (.Tuple es x1 pos) (ia g):=by
 let#[t,p,hg,q]:=h;exists 21,Cs p;unfold ia at e;exists h1,g Y,ps,e;ext e;refine q ok h1 λH1 vs fp s1 r1 g1=>#[?_,λa ha=>?_]
 .rw[<- r1.length,List.length_map,hg Y ps h1];apply af4 (vD hl)
 .have s2:aI H1 (upd H1 a (.tup vs)):=λb o e=>by rw[aN (cX e ha)];apply e
  apply k _ _ fp (s1.trans s2) (.tup (cE.of bX) (r1.same s2)) g1
def eZ(g:AF):EF:=λY=>(g Y).map λps=>(.lst (ps.map (·.1)),j4 ps)
def di.cons{K:Fr}(ok:Ok K H0 S z au Y U H)(s:aI H H1)(h:di z H t fp)
  (d:∀b∈fp,∃o,H1 b=some o/\lJ o=true) (ha:H1 a=none):di z H t (a::fp):=by
 have na:=s.free ha;have both:(fp.Nodup/\∀b∈fp,H b=none)->(a::fp).Nodup/\∀b∈a::fp,H b=none:=λp=>by
  refine#[ab6.mpr #[λm=>?_,p.1],λb m=>?_]
  .let#[o,w,_]:=d a m;rw[ha] at w;ext w
  .rcases aaO.mp m with e|m
   .rw[e];apply na
   .exact p.2 b m
 cases t with
 |sh o=>
  intro b m j q;rcases aaO.mp m with e|m
  .let#[#[o,w],_]:=ok.zd b j q;rw[e,na] at w;ext w
  .exact h b m j q
 |own=>apply both h
 |lk=>apply both h
def cO(h:FA X es g)(hl:es.length<=1000:=by decide):FP X (.List es pos) (eZ g):=by
 let#[t,p,hg,q]:=h;exists 21,afI p;unfold eZ at e;exists h1,g Y,ps,e;ext e;refine q ok h1 λH1 vs fp s1 r1 g1=>#[?_,λa ha=>?_]
 .rw[<- r1.length,List.length_map,hg Y ps h1];apply af4 (vD hl)
 .have s2:aI H1 (upd H1 a (.lst vs)):=λb o e=>by rw[aN (cX e ha)];apply e
  apply k _ _ (a::fp) (s1.trans s2) (.lst bX (r1.same s2)) (g1.cons ok s1 r1.dW ha)
def aX(K:Fr)(F:List D->Option D):Sp:=λvs H Q _=>∃ds fp d,aE K H ds vs fp/\F ds=some d/\∀H' v gZ,aI H H'->Rep K H' d v gZ->gZ.Nodup->(∀a∈gZ,H a=none)->Q v H'
def bC(F:List D->Option D)(g:AF):EF:=λY=>(g Y).bind λps=>(F (ps.map (·.1))).map λd=>(d,.own)
def ad4(e:bC F g Y=some (d,tg)):∃ps,g Y=some ps/\F (ps.map (·.1))=some d/\tg=.own:=by
 unfold bC at e;exists h1,g Y,ps,e,0;rw[h1,adG] at e;exists h2,F (ps.map (·.1)),d',e;ext e;apply#[ps,rfl,h2,rfl]
def aO(G:b_ X.prog X.w X.K X.mg X.base dO k f fd ps (aX X.K F) cm)(hr:bx k X.A cm)(hm:X.mg x=some (.ref f))(hk:PySem.W.keepIn X.K (.ref f)=true)(hb:Binds X.K fd ps [])(ha:FA X (e::es) g)
  (hg:GD X x:=by apply#[rfl,by decide])
  (he:SE X e es pos:=by apply#[rfl,rfl]):FP X (.Call (.Name x p) (e::es) [] pos) (bC F g):=by
 let#[t,pa,_,sa]:=ha;refine#[_,aat G hr hg.1 hm hk hb .nil oE pa hg.2 he.1 he.2,@λH0 S z au Y U H Q d tg ok e0 q=>?_];let#[qs,e1,e2,rfl]:=ad4 e0;refine sa ok e1 λH1 vs fp s1 r1 _=>?_
 rw[acw];apply#[_,fp,d,r1,e2,λH2 v gZ s2 r2 nd fr=>q H2 v gZ (s1.trans s2) r2 #[nd,λa m=>s1.free (fr a m)]]
def tV(f:EF):TF:=λY=>match f Y with
 |some (.bl b,_)=>some b
 |_=>none
def GY(e:tV f Y=some b):∃t,f Y=some (.bl b,t):=by
 unfold tV at e;exists h,f Y,p,e,0;let#[d,t]:=p;rw[h] at e;ext d<;>first|(ext e;apply#[t,rfl])|ext e
def dh(h:FP X e f)(he:∀whole,isTrue e X.env whole=(do let v <- whole;standAt e.pos;holding [v] (truthy v)):=by intro _;rfl):FT X e (tV f):=by
 let#[t,p,q]:=h;refine#[_,RL p he,@λH0 S z au Y U H Q b ok e k=>?_];let#[tg,e1]:=GY e;refine q ok e1 λH1 v fp s1 r1 _=>?_
 ext r1;apply#[b,rfl,k H1 s1]
def jJ(ho:dF X (compareOp op) r)(dd:gK X.K r o)(ha:FP X a fa)(hb:FP X b fb)(hm:behindInMarks op b=false):FT X (.Compare a [op] [b] pos) (tV (e2 o fa fb)):=by
 let#[ta,pa,sa]:=ha;let#[tb,pb,sb]:=hb;exists 22,S_ ho pa pb hm;let#[tg,e0]:=GY e;let#[d1,t1,d2,t2,e1,d7,e3,rfl]:=rD e0;refine sa ok e1 λH1 x f1 s1 r1 _=>?_
 refine sb (ok.same s1) d7 λH2 y f2 s2 r2 _=>?_
 refine dd H2 x y d1 d2 f1 f2 _ _ (r1.same s2) r2 e3 λH3 v s3 r3=>?_
 ext r3;apply#[c,rfl,k H3 ((s1.trans s2).trans s3)]
def qN(ho:dF X (compareOp op) r)(dd:gK X.K r o)(ha:FP X a fa)(hb:FP X b fb)(hm:behindInMarks op b=false):FP X (.Compare a [op] [b] pos) (e2 o fa fb):=
 fp_2 dd ha hb λ_ _ pa pb=>Xp ho pa pb hm
def vH(ho:dF X (binaryOp op) r)(dd:gK X.K r o)(ha:FP X a fa)(hb:FP X b fb):FP X (.BinOp a op b pos) (e2 o fa fb):=
 fp_2 dd ha hb λ_ _ pa pb=>R5 ho pa pb
def l9(f g:TF):TF:=λY=>match f Y with
 |some true=>g Y
 |some false=>some false
 |none=>none
def nY(f g:TF):TF:=λY=>match f Y with
 |some true=>some true
 |some false=>g Y
 |none=>none
def iW(f:TF):TF:=λY=>(f Y).map λb=>!b
def FW(X:Cx)(e:Expr)(f:TF):Prop:=∃t,PW X e t/\∀{H0} {S} {z} {au} {Y} {U} {H} {Q} {b},
 Ok X.K H0 S z au Y U H->f Y=some b->(∀H',aI H H'->Q b H')->t U H Q
def FW.ft(h:FW X e f):FT X e f:=let#[t,p,q]:=h;#[t,p.pt,q]
def Kl(h:FT X a f):FW X (.BoolOp .And [a] pos) f:=let#[t,p,q]:=h;#[t,Mp p,q]
def x9(h:FT X a f):FW X (.BoolOp .Or [a] pos) f:=let#[t,p,q]:=h;#[t,agV p,q]
def CO{rest:List Expr}(ha:FT X a f)(hb:FW X (.BoolOp .And (b::rest) pos) g):FW X (.BoolOp .And (a::b::rest) pos) (l9 f g):=by
 let#[t,p,q]:=ha;let#[t',p',q']:=hb;exists 22,S1 p p';unfold l9 at e;exists h,f Y,y,e;cases y with
 |false=>
  ext e;refine q ok h λH1 s1=>?_
  rw[abo aa2];apply k H1 s1
 |true=>
  refine q ok h λH1 s1=>?_
  rw[if_pos rfl];apply q' (ok.same s1) e λH2 s2=>k H2 (s1.trans s2)
def xw{rest:List Expr}(ha:FT X a f)(hb:FW X (.BoolOp .Or (b::rest) pos) g):FW X (.BoolOp .Or (a::b::rest) pos) (nY f g):=by
 let#[t,p,q]:=ha;let#[t',p',q']:=hb;exists 22,Vx p p';unfold nY at e;exists h,f Y,y,e;cases y with
 |true=>
  ext e;refine q ok h λH1 s1=>?_
  rw[if_pos rfl];apply k H1 s1
 |false=>
  refine q ok h λH1 s1=>?_
  rw[abo aa2];apply q' (ok.same s1) e λH2 s2=>k H2 (s1.trans s2)
def fM(ha:FT X a f):FT X (.UnaryOp .Not a pos) (iW f):=by
 let#[t,p,q]:=ha;exists 22,afN p;unfold iW at e;exists h,f Y,y,e;ext e;apply q ok h λH1 s1=>k H1 s1
inductive Out where
 |nx (Y:aU)|rt (d:D)|bk (Y:aU)|ct (Y:aU)
 |er (raw:Bool) (cn:XN) (Y:aU)
abbrev SF:=aU->Option Out
def lK(X:Cx)(x:Str):Bool:=x==("self":Str)||(X.fn ("self":Str)&&!X.fn x)
def Kp(X:Cx)(U aB:St):Prop:=∀(i:Nat) (x),X.N[i]? = some x->lK X x=true->aB[i]? = U[i]?
def Kp.refl(X:Cx)(U:St):Kp X U U:=λ_ _ _ _=>rfl
def Kp.trans(a:Kp X U nZ)(b:Kp X nZ iN):Kp X U iN:=λi x h k=>(b i x h k).trans (a i x h k)
def Kp.set(hi:X.N[i]? = some x)(hs:lK X x=false):Kp X U (U.set i v):=λj y h k=>by
 refine ac8 λe=>?_
 subst e;rw[hi] at h;have h:=ach h;subst h;rw[hs] at k;ext k
def vP(X:Cx)(H0:Hp)(S:List Addr)(au:List rJ)(pL:St)(raw:Bool)(cn:XN)(Y:aU):Prop:=∃ES:XS,(if raw=true then Fe X ES else sW X ES)/\
 ∀z U H C,Ok X.K H0 S z au Y U H->Kp X pL U->PySem.W.nsIn X.K mainGlobals cn.1=some (some (.ref C))->ES (.ref C) cn.2 U H
def vP.of(k:vP X H0 S au U raw cn Y)(a:Kp X U aB):vP X H0 S au aB raw cn Y:=
 let#[ES,th,q]:=k;#[ES,th,λz s H C ok b hC=>q z s H C ok (a.trans b) hC]
def nO(X:Cx)(H0:Hp)(S:List Addr)(au:List rJ)(pL:St)(E:Ends):Out->Prop
 |.nx Y=>∀z U H,Ok X.K H0 S z au Y U H->Kp X pL U->E.nx U H
 |.bk Y=>∀z U H,Ok X.K H0 S z au Y U H->Kp X pL U->E.bk U H
 |.ct Y=>∀z U H,Ok X.K H0 S z au Y U H->Kp X pL U->E.ct U H
 |.er raw cn Y=>vP X H0 S au pL raw cn Y
 |.rt d=>∀H v fp,(∀a o,H0 a=some o->a∉S->H a=some o)->Rep X.K H d v fp->fp.Nodup->(∀a∈fp,H0 a=none\/a∈S)->E.rt v H
def FS(X:Cx)(st:List Stmt)(f:SF):Prop:=∃t,iQ X st t/\∀{H0} {S} {z} {au} {Y} {U} {H} {E} {o},
 Ok X.K H0 S z au Y U H->f Y=some o->nO X H0 S au U E o->t E U H
def fL(X:Cx)(st:Stmt)(f:SF):Prop:=∃t,PS X st t/\∀{H0} {S} {z} {au} {Y} {U} {H} {E} {o},
 Ok X.K H0 S z au Y U H->f Y=some o->nO X H0 S au U E o->t E U H
def nO.of(k:nO X H0 S au U E o)(a:Kp X U aB):nO X H0 S au aB E o:=by
 cases o with
 |nx Y=>apply λz s H ok b=>k z s H ok (a.trans b)
 |bk Y=>apply λz s H ok b=>k z s H ok (a.trans b)
 |ct Y=>apply λz s H ok b=>k z s H ok (a.trans b)
 |rt d=>apply k
 |er raw cn Y=>apply vP.of k a
def eO:SF:=λY=>some (.nx Y)
def cz(f g:SF):SF:=λY=>match f Y with
 |some (.nx Y')=>g Y'
 |o=>o
def cJ:FS X [] eO:=#[_,P6,@λ_ _ z _ _ U H _ _ ok e k=>by ext e;apply k z U H ok (.refl _ _)]
def aK{st:Stmt}(h:fL X st f):FS X [st] f:=let#[t,p,q]:=h;#[t,TJ p,q]
def aL{st:Stmt}{rest:List Stmt}(h1:fL X st f)(h2:FS X rest g):FS X (st::rest) (cz f g):=by
 let#[t,p,q]:=h1;let#[t',p',q']:=h2;exists 23,zA p p';unfold cz at e;exists h,f Y,w,e,0;refine q ok h ?_;rw[h] at e;cases w with
 |nx Y'=>apply λz' aB H' bg a=>q' bg e (k.of a)
 |rt d=>ext e;apply k
 |bk Y'=>ext e;apply k
 |ct Y'=>ext e;apply k
 |er _ _ _=>ext e;apply k
def O6:SF:=λ_=>none
def nW{st:Stmt}:fL X st O6:=#[_,LZ,@λ_ _ _ _ _ _ _ _ _ _ e _=>by ext e]
def dN(c:TF)(f g:SF):SF:=λY=>match c Y with
 |some true=>f Y
 |some false=>g Y
 |none=>none
def cL(hc:FT X c tc)(ha:FS X a f)(hb:FS X b g):fL X (.If c a b pos) (dN tc f g):=by
 let#[t,p,q]:=hc;let#[t1,p1,q1]:=ha;let#[t2,p2,q2]:=hb;exists 23,ID p p1 p2;unfold dN at e;exists h,tc Y,y,e;refine q ok h λH1 s1=>?_
 cases y with
 |true=>rw[if_pos rfl];apply q1 (ok.same s1) e k
 |false=>rw[abo aa2];apply q2 (ok.same s1) e k
def kj:Tag->Bool
 |.sh _=>false
 |_=>true
def iB(f:EF):SF:=λY=>match f Y with
 |some (d,t)=>if kj t=true then some (.rt d) else if aH d=true then some (.rt d) else none
 |none=>none
def aT(he:FP X e f):fL X (.Return (some e) pos) (iB f):=by
 let#[t,p,q]:=he;exists 23,C8 p;unfold iB at e;exists h,f Y,w,e,0;let#[d,tg]:=w;rw[h] at e;dsimp only at e;refine q ok h λH1 v fp s1 r1 g1=>?_
 have en:∀a o,H0 a=some o->a∉S->H1 a=some o:=λa o e n=>s1 _ _ (ok.en a o e n)
 by_cases ho:kj tg=true
 .rw[if_pos ho] at e;ext e;have g:fp.Nodup/\∀a∈fp,H a=none:=by ext tg<;>first|exact g1|ext ho
  refine k H1 v fp en r1 g.1 λa m=>?_
  cases h0:H0 a with
  |none=>apply .inl rfl
  |some o=>
   by_cases hs:a∈S
   .exact .inr hs
   .have w:=ok.en a o h0 hs;rw[g.2 a m] at w;ext w
 .rw[abo ho] at e;let#[hi,e]:=ci e;ext e;have hn:=r1.aH hi;subst hn;apply k H1 v [] en r1 ac6 λa m=>nomatch m
def uq(i:Nat):SF:=λY=>match Y[i]? with
 |some (some (d,t))=>if kj t=true then some (.rt d) else if aH d=true then some (.rt d) else none
 |_=>none
def vY(i:Nat)(va:VA X i x:=by walk_at "va"):fL X (.Return (some (.Name x pos')) pos) (uq i):=by
 exists 23,C8 va.pe;unfold uq at e;exists h,Y[i]?,w,e,0;cases w with
 |none=>rw[h] at e;ext e
 |some w=>
  let#[d,tg]:=w;rw[h] at e;dsimp only at e;let#[v,fp,hs,r,zz]:=ok.sl i d tg h;refine#[v,hs,?_]
  by_cases ho:kj tg=true
  .rw[if_pos ho] at e;ext e;have g:fp.Nodup/\∀a∈fp,z a=some i:=by ext tg<;>first|exact zz|ext ho
   apply k H v fp ok.en r g.1 λa m=>(ok.zd a i (g.2 a m)).2
  .rw[abo ho] at e;let#[hi,e]:=ci e;ext e;have hn:=r.aH hi;subst hn;apply k H v [] ok.en r ac6 λa m=>nomatch m
def jt(Y:aU)(i:Nat)(d:D):Tag->aU
 |.sh o=>Y.set i (some (d,.sh o))
 |_=>Y.set i (some (d,.own))
def dw(i:Nat)(f:EF):SF:=λY=>match f Y with
 |some (d,t)=>some (.nx (jt Y i d t))
 |none=>none
def Ok.chg{K:Fr}{fp bz fo:List Addr}(ok:Ok K H0 S z au Y U H)(hi:Y'[i]? = some (some (d,tg)))(hs:aB[i]? = some (some v))(h0:∀a∈bz,z a=some i)(im:bh H H')
  (keep:∀b o,b∉bz->H b=some o->H' b=some o) (r:Rep K H' d v fp) (hz:vf z' i tg fp) (zn:∀a,a∉fo->z a=some i/\z' a=none\/z' a=z a/\a∉bz/\(z a=some i->¬vR Y i)) (DW:∀a∈fo,(a∈bz\/H a=none)/\∃o,H' a=some o)
  (ot:∀{j d t},j≠i->Y'[j]? = some (some (d,t))->Y[j]? = some (some (d,t))/\(bz=[]\/∀o,t=.sh o->i∉o)) (os:∀j,j≠i->aB[j]? = U[j]?) (hh:bz=[]\/¬vR Y i) (ln:Y'.length=aB.length):Ok K H0 S z' au Y' aB H':=by
 have old:∀{a} {o},a∉bz->H a=some o->a∉fo:=λn e m=>(DW _ m).1.elim n λq=>by rw[e] at q;ext q
 have at_:∀{a} {k},a∉fo->z' a=some k->z a=some k/\a∉bz/\(k=i->¬vR Y i):=λ{a k} n e=>by
  rcases zn a n with⟨_,w⟩|⟨w,q,u⟩
  .rw[e] at w;ext w
  .rw[e] at w;apply#[w.symm,q,λx=>u (x ▸ w.symm)]
 have S0:∀a∈bz,H0 a=none\/a∈S:=λa m=>(ok.zd a i (h0 a m)).2
 refine#[λj d' t e=>?_,λp hp=>?_,λa j e=>?_,λa o e n=>keep a o (λm=>?_) (ok.en a o e n),ln]
 .by_cases hj:j=i
  .subst hj;rw[hi] at e;ext e;apply#[v,fp,hs,r,hz]
  .let#[e0,nd]:=ot hj e;let#[v',gZ,cZ,r',zz]:=ok.sl j d' t e0;have n0:∀a∈gZ,a∉bz:=λa m q=>by
    have zi:=h0 a q;rcases nd with rfl|nd
    .cases q
    cases t with
    |sh o=>apply nd o rfl (zz a m i zi)
    |own=>rw[zz.2 a m] at zi;apply hj (ach zi)
    |lk=>rw[zz.2 a m] at zi;apply hj (ach zi)
   have n1:∀a∈gZ,a∉fo:=λa m=>let#[o,w,_]:=r'.dW a m;old (n0 a m) w
   have o1:∀a∈gZ,z a=some j->z' a=some j:=λa m e=>by
    rcases zn a (n1 a m) with⟨w,_⟩|⟨w,_⟩
    .rw[e] at w;apply(hj (ach w)).elim
    .rw[w,e]
   refine#[v',gZ,(os j hj).trans cZ,r'.frame (λa m=>?_) im,?_]
   .let#[o,w,_]:=r'.dW a m;rw[keep a o (n0 a m) w,w]
   .cases t with
    |sh o=>apply λa m k q=>zz a m k (at_ (n1 a m) q).1
    |own=>apply#[zz.1,λa m=>o1 a m (zz.2 a m)]
    |lk=>apply#[zz.1,λa m=>o1 a m (zz.2 a m)]
 .let#[r',ML]:=ok.hl p hp;have n0:∀a∈p.fp,a∉bz:=λa m q=>by
   rcases hh with rfl|hh
   .cases q
   .exact hh (ML a m i (h0 a q)).2
  refine#[r'.frame (λa m=>?_) im,λa m j q=>?_]
  .let#[o,w,_]:=r'.dW a m;rw[keep a o (n0 a m) w,w]
  .let#[o,w,_]:=r'.dW a m;let#[q,_,hj]:=at_ (old (n0 a m) w) q;let#[x,y]:=ML a m j q;apply#[x,λd e=>y d (ot (λx=>hj x (x ▸ y)) e).1]
 .by_cases w:a∈fo
  .refine#[(DW a w).2,(DW a w).1.elim (S0 a) λq=>?_];cases h0:H0 a with
   |none=>apply .inl rfl
   |some o=>
    by_cases hs:a∈S
    .exact .inr hs
    .rw[ok.en a o h0 hs] at q;ext q
  .let#[e,n,_]:=at_ w e;let#[#[o,x],y]:=ok.zd a j e;apply#[#[o,keep a o n x],y]
 .rcases S0 a m with q|q
  .rw[e] at q;ext q
  .exact n q
open Classical in
def zN(fo:List Addr)(i:Nat)(z:Addr->Option Nat):Addr->Option Nat:=λa=>if a∈fo then some i else if z a=some i then none else z a
def G_{fo bz:List Addr}(h:∀a∈bz,z a=some i)(a:Addr)(n:a∉fo):z a=some i/\zN fo i z a=none\/zN fo i z a=z a/\a∉bz/\(z a=some i->P):=by
 unfold zN
 by_cases w:z a=some i
 .exact .inl #[w,by rw[abo n,if_pos w]]
 .exact .inr #[by rw[abo n,abo w],λm=>w (h a m),λq=>(w q).elim]
def Ok.set{K:Fr}{fp:List Addr}(ok:Ok K H0 S z au Y U H)(hi:i<U.length)(s:aI H H1)
  (r:Rep K H1 d v fp) (g:di z H t fp):∃z',Ok K H0 S z' au (jt Y i d t) (U.set i (some v)) H1:=by
 have n0:∀a∈([]:List Addr),z a=some i:=λa m=>nomatch m
 have main:∀(fo) (tg),(∀a∈fo,H a=none/\a∈fp)->vf (zN fo i z) i tg fp->∃z',Ok K H0 S z' au (Y.set i (some (d,tg))) (U.set i (some v)) H1:=λfo tg h hz=>
  #[_,ok.chg (aeT (by rw[ok.ln];apply hi)) (aeT hi) n0 (.of s) (λb o _ e=>s b o e) r hz (G_ n0) (λa m=>#[.inr (h a m).1,let#[o,w,_]:=r.dW a (h a m).2;#[o,w]])
   (λhj e=>#[(ac8 (agM hj)).symm.trans e,.inl rfl]) (λj hj=>ac8 (agM hj)) (.inl rfl) (by rw[ahn,ahn];apply ok.ln)]
 cases t with
 |own=>apply main fp .own (λa m=>#[g.2 a m,m]) #[g.1,λa m=>if_pos m]
 |lk=>apply main fp .own (λa m=>#[g.2 a m,m]) #[g.1,λa m=>if_pos m]
 |sh o=>
  refine main [] (.sh o) (λa m=>nomatch m) λa m j q=>?_
  rcases G_ (fo:=[]) (P:=True) n0 a (λw=>nomatch w) with⟨_,w⟩|⟨w,_⟩
  .rw[q] at w;ext w
  .exact g a m j (w ▸ q)
def Ok.stored{K:Fr}{G:Prop}(ok:Ok K H0 S z au Y U H)(s:aI H H1)
  (r:Rep K H1 d v fp) (g:di z H t fp) (k:∀z',Ok K H0 S z' au (jt Y i d t) (U.set i (some v)) H1->G):G:=by
 by_cases hi:i<U.length
 .let#[z',bg]:=ok.set hi s r g;apply k z' bg
 .have e1:U.set i (some v)=U:=List.set_eq_of_length_le (Nat.le_of_not_lt hi);have e2:∀w,Y.set i w=Y:=λw=>List.set_eq_of_length_le (by rw[ok.ln];apply Nat.le_of_not_lt hi)
  have e3:jt Y i d t=Y:=by ext t<;>apply e2 _
  refine k z ?_;rw[e1,e3];apply ok.same s
def cj(i:Nat){x:Str}{e:Expr}(he:FP X e f)(hN:X.N.Nodup)(hi:X.N[i]? = some x:=by rfl)(hx:Loc X.env.scope x:=by first|exact Or.inl rfl|exact Or.inr rfl)
  (hs:swapsWith e (some (.Name x pos')) pos.line X.env=pure false:=by rfl) (hf:X.fn x=true\/X.env.scope.names.lookup x=some .local:=by first|exact .inl rfl|exact .inr rfl) (mT:lK X x=false:=by rfl):fL X (.Assign [.Name x pos'] e pos) (dw i f):=by
 let#[t,p,q]:=he;exists 23,BX hN hi hx p hs hf;unfold dw at e;exists h,f Y,w,e,0;let#[d,tg]:=w;rw[h] at e;ext e;refine q ok h λH1 v fp s1 r1 g1=>?_
 apply ok.stored s1 r1 g1 λz' bg=>k z' _ H1 bg (.set hi mT)
abbrev GF:=D->Tag->aU->Option aU
def FG(X:Cx)(tg:Expr)(g:GF)(is:List Nat):Prop:=(∀i∈is,∀x,X.N[i]? = some x->lK X x=false)/\∃t,PG X tg t/\∀{H0} {S} {z} {au} {Y} {U} {H H1} {v} {d} {tag} {fp} {Q} {Y'},
 Ok X.K H0 S z au Y U H->aI H H1->Rep X.K H1 d v fp->di z H tag fp->g d tag Y=some Y'->(∀z' aB,Ok X.K H0 S z' au Y' aB H1->(aB.length=U.length/\∀j,j∉is->aB[j]? = U[j]?)->Q aB H1)->t v U H1 Q
def gN(i:Nat):GF:=λd t Y=>some (jt Y i d t)
abbrev ye:=List D->aU->Option aU
def Kp.off{is:List Nat}(hk:∀i∈is,∀x,X.N[i]? = some x->lK X x=false)(h:∀j,j∉is->aB[j]? = U[j]?):Kp X U aB:=λi x e k=>h i λm=>by rw[hk i m x e] at k;ext k
def Bb(X:Cx)(ts:List Expr)(g:ye)(is:List Nat):Prop:=(∀i∈is,∀x,X.N[i]? = some x->lK X x=false)/\∃t,ya X ts t/\(∀ds Y Y',g ds Y=some Y'->ds.length=ts.length)/\∀{H0} {S} {z} {au} {Y} {U} {H} {vs} {ds} {fp} {Q} {Y'},
 Ok X.K H0 S z au Y U H->aE X.K H ds vs fp->g ds Y=some Y'->(∀z' aB,Ok X.K H0 S z' au Y' aB H->(aB.length=U.length/\∀j,j∉is->aB[j]? = U[j]?)->Q aB H)->t vs U H Q
def n_:ye:=λds Y=>match ds with
 |[]=>some Y
 |_=>none
def gj(g:GF)(gs:ye):ye:=λds Y=>match ds with
 |d::r=>if aH d=true then(g d .own Y).bind λY'=>gs r Y' else none
 |_=>none
def P8(e:gj g gs ds Y=some Y'):∃d r bf,ds=d::r/\aH d=true/\g d .own Y=some bf/\gs r bf=some Y':=by
 cases ds with
 |nil=>ext e
 |cons d r=>
  unfold gj at e;dsimp only at e;let#[hi,e]:=ci e;exists h,g d .own Y,bf,e,0;rw[h,adG] at e;apply#[d,r,bf,rfl,hi,h,e]
def gT(gs:ye):GF:=λd _ Y=>match d with
 |.tup ds=>gs ds Y
 |_=>none
def bG(i:Nat)(hN:X.N.Nodup)(hi:X.N[i]? = some x:=by rfl)(hx:Loc X.env.scope x:=by first|exact Or.inl rfl|exact Or.inr rfl)(hf:X.fn x=true\/X.env.scope.names.lookup x=some .local:=by first|exact .inl rfl|exact .inr rfl)(mT:lK X x=false:=by rfl):FG X (.Name x pos) (gN i) [i]:=by
 refine#[λj m y e=>by rw[aav.mp m,hi] at e;have e:=ach e;subst e;apply mT,_,aeh hN hi hx hf,@λH0 S z au Y U H H1 v d tag fp Q Y' ok s r g e k=>?_];ext e;apply ok.stored s r g λz' bg=>k z' _ bg #[ahn ..,λj hj=>ac8 λe=>hj (by rw[e];apply aah)]
def uV:Bb X [] n_ []:=by
 refine#[λj m=>(nomatch m),_,acX,λds Y Y' e=>?_,@λH0 S z au Y U H vs ds fp Q Y' ok r e k=>?_]
 .cases ds with
  |nil=>rfl
  |cons _ _=>ext e
 .cases ds with
  |nil=>ext r;ext e;apply#[rfl,k z U ok #[rfl,λ_ _=>rfl]]
  |cons _ _=>ext e
def jj(h1:FG X e g is)(h2:Bb X es gs ks)(hs:(assignEach (e::es) X.env).map (·.2)=assign e X.env::(assignEach es X.env).map (·.2):=by rfl):Bb X (e::es) (gj g gs) (is++ks):=by
 let#[n1,t,p,q]:=h1;let#[n2,t',p',l',q']:=h2;refine#[λj m=>(abC.mp m).elim (n1 j) (n2 j),_,adz p p' hs,λds Y Y' e=>?_,@λH0 S z au Y U H vs ds fp Q Y' ok r e k=>?_]
 .let#[d,r,bf,rfl,_,_,h]:=P8 e;rw[acF,acF,l' r bf Y' h]
 .let#[d,dr,bf,rfl,hi,h1,h2]:=P8 e;cases r with
  | @cons _ v _ vr f1 f2 r1 r2=>
   have hn:=r1.aH hi;subst hn;apply#[v,vr,rfl,q ok (aI.refl H) r1 .nil h1 λz1 nZ cg a1=>q' cg r2 h2 λz2 iN tE a2=>k z2 iN tE #[a2.1.trans a1.1,λj hj=>(a2.2 j λm=>hj (aaS _ m)).trans (a1.2 j λm=>hj (aa4 _ m))]]
def vW(hc:X.calm=true)(h:Bb X es gs is)(hn:(assignEach es X.env).length=es.length:=by rfl)(eE:(assignEach es X.env).findIdx? (·.1)=none:=by rfl):FG X (.Tuple es k pos) (gT gs) is:=by
 let#[n1,t,p,l,q]:=h;refine#[n1,_,ag0 hc p hn eE,@λH0 S z au Y U H H1 v d tag fp Q Y' ok s r g e k=>?_];cases r with
 | @tup a xs ds fp hq rs=>
  have e:=e;apply#[a,xs,rfl,hq,by rw[<- rs.length];apply l ds Y Y' e,q (ok.same s) rs e k]
 |_=>ext e
structure Hv where
 d:D
 v:V
 fp:List Addr
def ud(K:Fr)(J:It)(ds:List D)(hv:List Hv):Prop:=∀(H) (i),(∀h∈hv,Rep K H h.d h.v h.fp)->
 (∀d,ds[i]? = some d->J.go i H/\∀x H1,J.zG i H x H1->aI H H1/\∃fp,Rep K H1 d x fp/\∀a∈fp,∃h∈hv,a∈h.fp)/\(ds.length<=i->J.stop i H)
abbrev IF:=aU->Option (List D×Tag)
def FI(X:Cx)(tg iter:Expr)(f:IF):Prop:=∃wi,PI X tg iter wi/\∀{H0} {S} {z} {au} {Y} {U} {H} {R} {ds} {t},
 Ok X.K H0 S z au Y U H->f Y=some (ds,t)->(∀H1 J hv,aI H H1->(∀h∈hv,Rep X.K H1 h.d h.v h.fp/\∀a∈h.fp,∀j,z a=some j->∃o,t=.sh o/\j∈o)->ud X.K J ds hv->R J H1)->wi U H R
def fG(f:EF):IF:=λY=>match f Y with
 |some (.lst ds,t)=>some (ds,t)
 |some (.dH ds,t)=>some (ds,t)
 |some (.tup ds,t)=>some (ds,t)
 |_=>none
def Zp(K:Fr)(tl:TE):TI:=λU H R=>tl U H λx H1=>∃a,x=.ref a/\(((∃xs,bY K H1 a xs)/\R (Ak K a) H1)\/((∃xs,cE K H1 a xs)/\R (KA K a) H1))
def afv(hl:PE X l tl):PI X tg l (Zp X.K tl):=by
 intro af s U H R I h;refine hl.n I h λv s1 x H1 I1 r1 q1=>?_
 let#[a,e,q]:=q1;subst e;ext r1;rcases q with⟨⟨xs,hq⟩,q⟩|⟨⟨xs,hq⟩,q⟩
 .let#[ay,rv,p,hz]:=I1.list hq;refine wpAny_pyIter_list p.isList ?_;refine#[s1.heap.objs.size,[s1.heap.objs.size],_,_,H1,rfl,I1.kept (λb o e=>aaA _ e),adN a _,#[_,ab4 _ rfl,rfl,rfl],λb hb=>?_,q];obtain rfl:b=s1.heap.objs.size:=by simpa using hb
  apply I1.sD (abD _) (I1.aG.fresh (abD _))
 .let#[ay,rv,p,hz]:=I1.tuple hq;refine wpAny_pyIter_tuple (show s1.heap.IsTuple a ay.toArray from p) ?_;refine#[s1.heap.objs.size,[s1.heap.objs.size],_,_,H1,rfl,I1.kept (λb o e=>aaA _ e),Zq a _,#[_,ab4 _ rfl,rfl,rfl],λb hb=>?_,q];obtain rfl:b=s1.heap.objs.size:=by simpa using hb
  apply I1.sD (abD _) (I1.aG.fresh (abD _))
def Rep.d_{K:Fr}(r:Rep K H (.lst ds) v fp):∃a xs f,v=.ref a/\bY K H a xs/\aE K H ds xs f/\∀b∈f,b∈fp:=by
 cases r with
 |lst h rs=>apply#[_,_,_,rfl,bY.of h,rs,λb m=>aab _ m]
def Rep.qQ{K:Fr}(r:Rep K H (.dH ds) v fp):∃a xs,v=.ref a/\bY K H a xs/\aE K H ds xs fp:=by
 cases r with
 |uT h rs=>apply#[_,_,rfl,h.sq,rs]
def Rep.jB{K:Fr}(r:Rep K H (.tup ds) v fp):∃a xs,v=.ref a/\cE K H a xs/\aE K H ds xs fp:=by
 cases r with
 |tup h rs=>apply#[_,_,rfl,h,rs]
def abu{K:Fr}:ud K (Ak K a) ds [#[.lst ds,.ref a,fp]]:=by
 intro H i hh;have r:=hh #[.lst ds,.ref a,fp] aah;let#[a',xs,f,e,hq,rs,sub]:=r.d_;ext e;refine#[λd hd=>?_,λhl=>#[xs,hq,by rw[<- rs.length];apply hl]];let#[v,f',hv,rv,s']:=rs.get hd;refine#[#[xs,v,hq,hv],λx H1 y=>?_];let#[e1,y]:=y;subst e1;have e2:=y xs hq;rw[hv] at e2;ext e2;apply#[aI.refl _,f',rv,λb m=>#[_,aah,sub b (s' b m)]]
def Zu{K:Fr}:ud K (Ak K a) ds [#[.dH ds,.ref a,fp]]:=by
 intro H i hh;have r:=hh #[.dH ds,.ref a,fp] aah;let#[a',xs,e,hq,rs]:=r.qQ;ext e;refine#[λd hd=>?_,λhl=>#[xs,hq,by rw[<- rs.length];apply hl]];let#[v,f',hv,rv,s']:=rs.get hd;refine#[#[xs,v,hq,hv],λx H1 y=>?_];let#[e1,y]:=y;subst e1;have e2:=y xs hq;rw[hv] at e2;ext e2;apply#[aI.refl _,f',rv,λb m=>#[_,aah,s' b m]]
def abL{K:Fr}:ud K (KA K a) ds [#[.tup ds,.ref a,fp]]:=by
 intro H i hh;have r:=hh #[.tup ds,.ref a,fp] aah;let#[a',xs,e,hq,rs]:=r.jB;ext e;refine#[λd hd=>?_,λhl=>#[xs,hq,by rw[<- rs.length];apply hl]];let#[v,f',hv,rv,s']:=rs.get hd;refine#[#[xs,v,hq,hv],λx H1 y=>?_];let#[e1,y]:=y;subst e1;have e2:=y xs hq;rw[hv] at e2;ext e2;apply#[aI.refl _,f',rv,λb m=>#[_,aah,s' b m]]
def OY{K:Fr}{lo:Int}:ud K (zw lo n) ((List.range n).map λi:Nat=>D.int (lo+(i:Int))) []:=by
 intro H i _;refine#[λd hd=>?_,λhl=>?_]
 .rw[adm] at hd
  by_cases hi:i<n
  .rw[List.getElem?_range hi] at hd;ext hd;refine#[hi,λx H1 y=>?_];let#[e1,e2]:=y;subst e1 e2;apply#[aI.refl _,[],.int _,λb m=>nomatch m]
  .rw[aiD (by simpa using hi)] at hd;ext hd
 .rw[List.length_map,List.length_range] at hl;apply hl
def di.over{K:Fr}(ok:Ok K H0 S z au Y U H)(g:di z H t fp):∀a∈fp,∀j,z a=some j->∃o,t=.sh o/\j∈o:=by
 intro a m j q;cases t with
 |sh o=>apply#[o,rfl,g a m j q]
 |own=>let#[#[o,w],_]:=ok.zd a j q;rw[g.2 a m] at w;ext w
 |lk=>let#[#[o,w],_]:=ok.zd a j q;rw[g.2 a m] at w;ext w
def eX{l:Expr}{f:EF}(hl:FP X l f):FI X tg l (fG f):=by
 let#[t,p,q]:=hl;exists 24,afv p;unfold fG at e;exists h,f Y,w,e,0;let#[d,Om]:=w;rw[h] at e;cases d with
 |lst es=>
  ext e;refine q ok h λH1 v fp s1 r1 g1=>?_
  let#[a,xs,f,rfl,hq,rs,sub]:=r1.d_;apply#[a,rfl,.inl #[#[xs,hq],k H1 _ [#[.lst ds,.ref a,fp]] s1 (λh m=>by cases aav.mp m;apply#[r1,g1.over ok]) abu]]
 |dH es=>
  ext e;refine q ok h λH1 v fp s1 r1 g1=>?_
  let#[a,xs,rfl,hq,rs]:=r1.qQ;apply#[a,rfl,.inl #[#[xs,hq],k H1 _ [#[.dH ds,.ref a,fp]] s1 (λh m=>by cases aav.mp m;apply#[r1,g1.over ok]) Zu]]
 |tup es=>
  ext e;refine q ok h λH1 v fp s1 r1 g1=>?_
  let#[a,xs,rfl,hq,rs]:=r1.jB;apply#[a,rfl,.inr #[#[xs,hq],k H1 _ [#[.tup ds,.ref a,fp]] s1 (λh m=>by cases aav.mp m;apply#[r1,g1.over ok]) abL]]
 |_=>ext e
def small(i:Int):Bool:=decide (-(2 ^ 62)<=i)&&decide (i<2 ^ 62)
def sS(g:EF):IF:=λY=>match g Y with
 |some (.int j,_)=>if small j=true then some ((List.range j.toNat).map λi:Nat=>D.int (0+(i:Int)),.own) else none
 |_=>none
def pV(f g:EF):IF:=λY=>match f Y,g Y with
 |some (.int i,_),some (.int j,_)=>if(small i&&small j)=true then some ((List.range (j-i).toNat).map λk:Nat=>D.int (i+(k:Int)),.own) else none
 |_,_=>none
def vX(h:small i=true):-(2 ^ 62)<=i/\i<2 ^ 62:=by
 let#[a,b]:=(aaV _ _).mp h;apply#[aaK a,aaK b]
def oA(hm:X.mg "range"=none)(ha:FP X a g)(hg:Gl X "range":=by rfl)(hs:starEach [a] X.env=[(false,eval a X.env)]:=by rfl):FI X tg (.Call (.Name "range" p) [a] [] pos) (sS g):=by
 let#[t,pa,q]:=ha;exists 24,af2 hg hm (cV pa fq hs) hs;unfold sS at e;exists h,g Y,w,e,0;let#[d,Om]:=w;rw[h] at e;cases d with
 |int j=>
  dsimp only at e;let#[hj,e]:=ci e;ext e;refine q ok h λH1 v fp s1 r1 g1=>?_
  ext r1;apply#[j,rfl,(vX hj).1,(vX hj).2,k H1 _ [] s1 (λh m=>nomatch m) OY]
 |_=>ext e
def zF(hm:X.mg "range"=none)(ha:FP X a f)(hb:FP X b g)(hg:Gl X "range":=by rfl)(hs:starEach [a,b] X.env=[(false,eval a X.env),(false,eval b X.env)]:=by rfl)(ck:starEach [b] X.env=[(false,eval b X.env)]:=by rfl):
  FI X tg (.Call (.Name "range" p) [a,b] [] pos) (pV f g):=by
 let#[t,pa,q]:=ha;let#[t',pb,q']:=hb;exists 24,agC hg hm (cV pa (cV pb fq ck) (by rw[hs,ck])) hs ck;unfold pV at e;exists h,f Y,w,e,0;let#[d,Om]:=w;cases h2:g Y with
 |none=>rw[h,h2] at e;ext d<;>ext e
 |some w=>
  let#[d2,cR]:=w;rw[h,h2] at e;cases d with
  |int i=>
   cases d2 with
   |int j=>
    dsimp only at e;let#[hj,e]:=ci e;ext e;let#[si,sj]:=(aaV _ _).mp hj;refine q ok h λH1 v fp s1 r1 g1=>?_
    ext r1;refine q' (ok.same s1) h2 λH2 v fp s2 r2 g2=>?_
    ext r2;apply#[i,j,rfl,#[(vX si).1,(vX si).2,(vX sj).1,(vX sj).2],k H2 _ [] (s1.trans s2) (λh m=>nomatch m) OY]
   |_=>ext e
  |_=>ext e
def mF:Tag->List Nat
 |.sh o=>o
 |_=>[]
def lu(t:Tag):Tag:=.sh (mF t)
def ownAt(Y:aU)(j:Nat):Bool:=match Y[j]? with
 |some (some (_,.own))=>true
 |_=>false
def mW(o:List Nat)(Y:aU):List Nat:=o.filter (ownAt Y)
def PJ:Tag->Tag
 |.own=>.lk
 |t=>t
def NV:Tag->Tag
 |.lk=>.own
 |t=>t
def Dr(f:Tag->Tag):Slot->Slot
 |some (d,t)=>some (d,f t)
 |none=>none
def oW:List Nat->aU->aU
 |[],Y=>Y
 |j::r,Y=>oW r (Y.modify j (Dr PJ))
def uc:List Nat->aU->aU
 |[],Y=>Y
 |j::r,Y=>uc r (Y.modify j (Dr NV))
def dD(g:GF)(t:Tag)(f:SF):List D->SF
 |[],Y=>some (.nx Y)
 |d::ds,Y=>match g d t Y with
  |none=>none
  |some bf=>match f bf with
   |some (.nx bI)=>dD g t f ds bI
   |some (.ct bI)=>dD g t f ds bI
   |some (.bk bI)=>some (.nx bI)
   |some (.rt r)=>some (.rt r)
   |some (.er raw cn bI)=>some (.er raw cn bI)
   |none=>none
def jM(it:IF)(g:GF)(f:SF):SF:=λY=>match it Y with
 |none=>none
 |some (ds,t)=>match dD g (lu t) f ds (oW (mW (mF t) Y) Y) with
  |some (.nx Y')=>some (.nx (uc (mW (mF t) Y) Y'))
  |some (.rt d)=>some (.rt d)
  |some (.er raw cn Y')=>some (.er raw cn (uc (mW (mF t) Y) Y'))
  |_=>none
theorem Bs:∀{ks} {Y} {i} {d} {t},(oW ks Y)[i]? = some (some (d,t))->∃t',Y[i]? = some (some (d,t'))/\(t=t'\/(t'=.own/\t=.lk))/\(i∈ks->t≠.own)
 |[],Y,i,d,t,h=>#[t,h,.inl rfl,λm=>nomatch m]
 |j::r,Y,i,d,t,h=>by
  let#[t1,h1,h2,h3]:=Bs (ks:=r) h;rw[List.getElem?_modify] at h1;exists e,Y[i]?,s,h1;have iC:(if j=i then Dr PJ s else s)=some (d,t1):=ach h1
  by_cases hj:j=i
  .rw[if_pos hj] at iC;cases s with
   |none=>ext iC
   |some p=>
    let#[d0,t0]:=p;ext iC;refine#[t0,rfl,?_,λ_=>?_]
    .rcases h2 with h2|⟨h2,nv⟩
     .cases t0<;>first|exact .inl h2|exact .inr #[rfl,h2]
     .cases t0<;>ext h2
    .rcases h2 with h2|⟨h2,nv⟩
     .rw[h2];ext t0<;>(intro z;ext z)
     .rw[nv];intro z;ext z
  .rw[abo hj] at iC;subst iC;refine#[t1,rfl,h2,λm=>?_];rcases aaO.mp m with z|z
   .exact absurd z.symm hj
   .exact h3 z
theorem R6:∀{ks} {Y},(oW ks Y).length=Y.length
 |[],_=>rfl
 |_::r,Y=>(R6 (ks:=r)).trans (List.length_modify ..)
theorem L_:∀{ks} {Y},(uc ks Y).length=Y.length
 |[],_=>rfl
 |_::r,Y=>(L_ (ks:=r)).trans (List.length_modify ..)
theorem Gi:∀{ks} {Y} {i} {d} {t},(uc ks Y)[i]? = some (some (d,t))->∃t',Y[i]? = some (some (d,t'))/\(t=t'\/(t'=.lk/\t=.own/\i∈ks))
 |[],Y,i,d,t,h=>#[t,h,.inl rfl]
 |j::r,Y,i,d,t,h=>by
  let#[t1,h1,h2]:=Gi (ks:=r) h;rw[List.getElem?_modify] at h1;exists e,Y[i]?,s,h1;have iC:(if j=i then Dr NV s else s)=some (d,t1):=ach h1
  by_cases hj:j=i
  .rw[if_pos hj] at iC;cases s with
   |none=>ext iC
   |some p=>
    let#[d0,t0]:=p;ext iC;refine#[t0,rfl,?_];rcases h2 with h2|⟨h2,nv,h3⟩
    .cases t0<;>first|exact .inl h2|exact .inr #[rfl,h2,by rw[hj];apply aah]
    .cases t0<;>ext h2
  .rw[abo hj] at iC;subst iC;refine#[t1,rfl,?_];rcases h2 with h2|⟨h2,nv,h3⟩
   .exact .inl h2
   .exact .inr #[h2,nv,aab _ h3]
def v_(z:Addr->Option Nat)(hv:List Hv):List rJ:=hv.map λh=>#[h.d,h.v,h.fp,z]
def zH(z:Addr->Option Nat)(au:List rJ):List rJ:=au.map λh=>{ h with z0:=z }
section
variable{K:Fr}
def Ok.begin(ok:Ok K H0 S z au Y U H)(hh:∀h∈hv,Rep K H h.d h.v h.fp/\∀a∈h.fp,∀j,z a=some j->∃o,t=.sh o/\j∈o):
  Ok K H0 S z (v_ z hv++zH z au) (oW (mW (mF t) Y) Y) U H:=by
 refine#[λi d tg e=>?_,λp m=>?_,ok.zd,ok.en,by rw[R6];apply ok.ln]
 .let#[t',e',h,_]:=Bs e;let#[v,fp,a,b,c]:=ok.sl i d t' e';refine#[v,fp,a,b,?_];rcases h with h|⟨h,h'⟩
  .subst h;apply c
  .subst h h';apply c
 .have af7:∀j,vR Y j->vR (oW (mW (mF t) Y) Y) j:=λj n d e=>by
   let#[t',e',h,_]:=Bs e;rcases h with h|⟨h,h'⟩
   .subst h;apply n d e'
   .cases h'
  rcases abC.mp m with m|m
  .let#[h,hm,rfl]:=acg.mp m;refine#[(hh h hm).1,λa ha j q=>#[q,λd e=>?_]];let#[o,rfl,hj]:=(hh h hm).2 a ha j q;let#[t',e',h',n]:=Bs e;rcases h' with h'|⟨h',wK⟩
   .subst h';apply n (adh.mpr #[hj,by unfold ownAt;rw[e']]) rfl
   .cases wK
  .let#[h,hm,rfl]:=acg.mp m;let#[r,hz]:=ok.hl h hm;apply#[r,λa ha j q=>#[q,af7 j (hz a ha j q).2]]
def Ok.fin(ok:Ok K H0 S z au Y U H)(bg:Ok K H0 S z' (v_ z hv++zH z au) Y' aB H'):Ok K H0 S z' au (uc (mW (mF t) Y) Y') aB H':=by
 refine#[λi d tg e=>?_,λp m=>?_,bg.zd,bg.en,by rw[L_];apply bg.ln]
 .let#[t',e',h]:=Gi e;let#[v,fp,a,b,c]:=bg.sl i d t' e';refine#[v,fp,a,b,?_];rcases h with h|⟨h,h',_⟩
  .subst h;apply c
  .subst h h';apply c
 .let#[r,hz]:=bg.hl { p with z0:=z } (aaS _ (acg.mpr #[p,m,rfl]));refine#[r,λa ha j q=>?_];let#[h1,h2]:=hz a ha j q;have h1:=h1;let#[h3,h4]:=(ok.hl p m).2 a ha j h1;refine#[h3,λd e=>?_];let#[t',e',h]:=Gi e;rcases h with h|⟨h,_,hk⟩
  .subst h;apply h2 d e'
  .have ho:=(adh.mp hk).2;unfold ownAt at ho;exists e0,Y[j]?,s,ho;cases s with
   |none=>ext ho
   |some p=>
    let#[d0,t0]:=p;ext t0<;>first|exact h4 d0 e0|ext ho
end
def iS(hc:X.calm=true)(hi:FI X tg iter it)(hg:FG X tg g is)(hb:FS X body f)(hp:PassesOwn (model X.prog X.w) X.A X.env X.xe:=by apply PassesOwn.never)
  (hs:∀x,foldedSetIterable iter X.env x=pure x:=by intro _;rfl):fL X (.For tg iter body [] pos) (jM it g f):=by
 let#[wi,pi,si]:=hi;let#[n1,tgt,pg,sg]:=hg;let#[tb,pb,sb]:=hb;exists 23,afm hp hc pi pg pb hs;unfold jM at e;exists h,it Y,w,e,0;let#[ds,t]:=w;rw[h] at e;dsimp only at e;refine si ok h λH1 J hv s1 hh Hr=>?_
 exists ho,dD g (lu t) f ds (oW (mW (mF t) Y) Y),out,e;have cg:=ok.same s1;have tE:=cg.begin hh;have fin:∀{z'} {Y'} {aB} {H'},Ok X.K H0 S z' (v_ z hv++zH z au) Y' aB H'->out=.nx Y'->Kp X U aB->E.nx aB H':=λ{z' Y' aB H'} bg eo kp=>by
  subst eo;ext e;apply k z' aB H' (cg.fin bg) kp
 refine#[λi m aB H'=>m=ds.length-i/\∃z' Y',Ok X.K H0 S z' (v_ z hv++zH z au) Y' aB H'/\dD g (lu t) f (ds.drop i) Y'=some out/\Kp X U aB,#[ds.length,rfl,z,_,tE,ho,.refl _ _],?_]
 rintro i m aB H' ⟨rfl,z',Y',bg,e',kp⟩
 have hH:∀h∈hv,Rep X.K H' h.d h.v h.fp:=λh m=>(bg.hl _ (aa4 _ (acg.mpr #[h,m,rfl]))).1
 let#[go,stop]:=Hr H' i hH
 by_cases hl:ds.length<=i
 .refine .inl #[stop hl,?_];rw[List.drop_eq_nil_of_le hl] at e';ext e';apply fin bg rfl kp
 .have eT:=Nat.lt_of_not_le hl;rw[aiJ eT] at e';let#[g1,g2]:=go ds[i] (abm eT);refine .inr #[g1,λiN H2=>∃z' Y',Ok X.K H0 S z' (v_ z hv++zH z au) Y' iN H2/\dD g (lu t) f (ds.drop (i+1)) Y'=some out/\Kp X U iN,λiN H2 hn=>#[ds.length-(i+1),by omega,rfl,hn],λx H2 y=>?_];let#[s2,fp,r2,sub]:=g2 x H2 y;unfold dD at e';cases sJ:g ds[i] (lu t) Y' with
  |none=>rw[sJ] at e';ext e'
  |some bf=>
   rw[sJ] at e';dsimp only at e';refine sg (tag:=lu t) bg s2 r2 (λa ha j q=>?_) sJ λz2 iN j9 a3=>?_
   .let#[h,hm,NY]:=sub a ha;let#[_,hz]:=bg.hl _ (aa4 _ (acg.mpr #[h,hm,rfl]));let#[q0,_]:=hz a NY j q;let#[o',rfl,hj]:=(hh h hm).2 a NY j q0;apply hj
   .cases hf:f bf with
    |none=>rw[hf] at e';ext e'
    |some o1=>
     rw[hf] at e';refine sb j9 hf ?_;cases o1 with
     |nx bI=>apply λz3 dz H3 i_ b=>#[z3,bI,i_,e',(kp.trans (.off n1 a3.2)).trans b]
     |ct bI=>apply λz3 dz H3 i_ b=>#[z3,bI,i_,e',(kp.trans (.off n1 a3.2)).trans b]
     |bk bI=>
      ext e';apply λz3 dz H3 i_ b=>fin i_ rfl ((kp.trans (.off n1 a3.2)).trans b)
     |rt d=>
      ext e';ext e;apply k
     |er raw cn bI=>
      ext e';ext e;let#[ES,th,q]:=k;apply#[ES,th,λz3 dz H3 C i_ b hC=>q z3 dz H3 C (cg.fin i_) ((kp.trans (.off n1 a3.2)).trans b) hC]
def gW(c:TF)(f:SF):Nat->SF
 |0,_=>none
 |n+1,Y=>match c Y with
  |some false=>some (.nx Y)
  |some true=>match f Y with
   |some (.nx Y')=>gW c f n Y'
   |some (.ct Y')=>gW c f n Y'
   |some (.bk Y')=>some (.nx Y')
   |some (.rt d)=>some (.rt d)
   |some (.er raw cn Y')=>some (.er raw cn Y')
   |none=>none
  |none=>none
def IU(n:Nat)(hc:FT X c tc)(hb:FS X body f)(hp:PassesOwn (model X.prog X.w) X.A X.env X.xe:=by apply PassesOwn.never):fL X (.While c body [] pos) (gW tc f n):=by
 let#[t,p,q]:=hc;let#[tb,pb,qb]:=hb;exists 23,Td hp p pb;refine#[λm aB H'=>∃z' Y',Ok X.K H0 S z' au Y' aB H'/\gW tc f m Y'=some o/\Kp X U aB,#[n,z,Y,ok,e,.refl _ _],?_]
 rintro m aB H' ⟨z',Y',bg,e',kp⟩
 cases m with
 |zero=>ext e'
 |succ m=>
  unfold gW at e';exists hc,tc Y',b,e';refine q bg hc λH1 s1=>?_
  cases b with
  |false=>
   ext e';rw[abo aa2];apply k z' aB H1 (bg.same s1) kp
  |true=>
   rw[if_pos rfl];dsimp only at e';exists hf,f Y',o1,e';refine#[λiN H2=>∃z2 bI,Ok X.K H0 S z2 au bI iN H2/\gW tc f m bI=some o/\Kp X U iN,λiN H2 hn=>#[m,aix m,hn],?_];refine qb (bg.same s1) hf ?_;cases o1 with
   |nx bI=>apply λz3 dz H3 i_ b=>#[z3,bI,i_,e',kp.trans b]
   |ct bI=>apply λz3 dz H3 i_ b=>#[z3,bI,i_,e',kp.trans b]
   |bk bI=>
    ext e';apply λz3 dz H3 i_ b=>k z3 dz H3 i_ (kp.trans b)
   |rt d=>
    ext e';apply k
   |er raw cn bI=>
    ext e';let#[ES,th,q]:=k;apply#[ES,th,λz3 dz H3 C i_ b hC=>q z3 dz H3 C i_ (kp.trans b) hC]
def E9(K:Fr)(f:EF):TE:=λU H Q=>∃H0 S z au Y d tg,Ok K H0 S z au Y U H/\f Y=some (d,tg)/\∀H' v fp,aI H H'->Rep K H' d v fp->di z H tg fp->Q v H'
def zc(K:Fr)(f:TF):TT:=λU H Q=>∃H0 S z au Y b,Ok K H0 S z au Y U H/\f Y=some b/\∀H',aI H H'->Q b H'
def La(K:Fr)(g:GF)(is:List Nat):TG:=λv U H1 Q=>∃H0 S z au Y H d tag fp Y',Ok K H0 S z au Y U H/\aI H H1/\Rep K H1 d v fp/\di z H tag fp/\g d tag Y=some Y'/\
 ∀z' aB,Ok K H0 S z' au Y' aB H1->(aB.length=U.length/\∀j,j∉is->aB[j]? = U[j]?)->Q aB H1
def FP.pe(h:FP X e f):PE X e (E9 X.K f):=by
 let#[t,p,q]:=h
 rintro af s U H Q I ⟨H0,S,z,au,Y,d,tg,ok,e,k⟩
 apply p af s U H Q I (q ok e k)
def FT.pt(h:FT X e f):PT X e (zc X.K f):=by
 let#[t,p,q]:=h
 rintro af s U H Q I ⟨H0,S,z,au,Y,b,ok,e,k⟩
 apply p af s U H Q I (q ok e k)
def FG.pg(h:FG X e g is):PG X e (La X.K g is):=by
 let#[_,t,p,q]:=h
 rintro af s U H1 v u Q I r ⟨H0,S,z,au,Y,H,d,tag,fp,Y',ok,sm,rp,tk,e,k⟩
 apply p af s U H1 v u Q I r (q ok sm rp tk e k)
def Cj(X:Cx)(ifs:List Expr)(f:TF):Prop:=wX X ifs (zc X.K f)
def lU:TF:=λ_=>some true
def lH:Cj X [] lU:=by
 rintro af s U H Q I ⟨H0,S,z,au,Y,b,ok,e,k⟩
 ext e;apply wpAny_tests_nil #[H,I,k H (aI.refl H)]
def jT(h:FT X c f):Cj X [c] f:=VI h.pt
def jA(js:List (Option Nat))(Y:aU):aU:=js.map λj=>match j with
 |none=>none
 |some j=>match Y[j]? with
  |some (some (d,_))=>some (d,.sh [])
  |_=>none
def jH(g:GF)(tt:TF)(te:EF)(Y:aU)(d:D):Option (Option D):=match g d (.sh []) Y with
 |none=>none
 |some bf=>match tt bf with
  |none=>none
  |some false=>some none
  |some true=>match te bf with
   |none=>none
   |some (e,t)=>if kj t=true then some (some e) else if aH e=true then some (some e) else none
def pJ(h:D->Option (Option D)):List D->Option (List D)
 |[]=>some []
 |d::ds=>match h d with
  |none=>none
  |some none=>pJ h ds
  |some (some e)=>match pJ h ds with
   |none=>none
   |some es=>some (e::es)
def eW(js:List (Option Nat))(it:IF)(g:GF)(tt:TF)(te:EF):EF:=λY=>match it Y with
 |none=>none
 |some (ds,_)=>if ds.length<sizeLine then(pJ (jH g tt te (jA js Y)) ds).map λes=>(.lst es,.own) else none
theorem Sf:∀{ds},(∀d∈ds,h d=some (k d))->pJ h ds=some (ds.filterMap k)
 |[],_=>rfl
 |d::ds,e=>by
  unfold pJ;rw[e d aah,Sf λx m=>e x (aab _ m),afi];cases k d<;>rfl
section
variable{X:Cx}
def Sv(zk:∀i∈is,js[i]? = some none)
  (si:∀{H0} {S} {z} {au} {Y} {U} {H} {R} {ds} {t},
   Ok X.K H0 S z au Y U H->it Y=some (ds,t)->(∀H1 J hv,aI H H1->(∀h∈hv,Rep X.K H1 h.d h.v h.fp/\∀a∈h.fp,∀j,z a=some j->∃o,t=.sh o/\j∈o)->ud X.K J ds hv->R J H1)->wi U H R)
  (ok:Ok X.K H0 S z au Y U H) (e:eW js it g tt te Y=some (d,tg))
  (k:∀H' v fp,aI H H'->Rep X.K H' d v fp->di z H tg fp->Q v H'):DC wi js (La X.K g is) (zc X.K tt) (E9 X.K te) U H Q:=by
 unfold eW at e;cases h:it Y with
 |none=>rw[h] at e;ext e
 |some w=>
  let#[ds,t]:=w;rw[h] at e;dsimp only at e
  by_cases hz:ds.length<sizeLine
  .rw[if_pos hz] at e;cases Ez:pJ (jH g tt te (jA js Y)) ds with
   |none=>rw[Ez] at e;ext e
   |some es=>
    rw[Ez] at e;ext e;refine si ok h λH1 J hv s1 hh Hr Dd vn=>?_
    have cg:=ok.same s1;have inner:∀(aB) (H2),aI H1 H2->(∃o,H2 Dd=some o)->aB.length=js.length->(∀j,j∉is->aB[j]? = (mQ js U)[j]?)->Ok X.K H1 [] (λa=>if a=Dd then some js.length else none) (v_ (λ_=>none) hv) (jA js Y) aB H2:=by
     intro aB H2 s2 HX hlen Du;have nD:∀{a} {o},H1 a=some o->a≠Dd:=λe=>cX e vn
     refine#[λi d t e=>?_,λp m=>?_,λa j e=>?_,λa o e _=>s2 _ _ e,by unfold jA;rw[List.length_map,hlen]]
     .unfold jA at e;rw[adm] at e;cases hj:js[i]? with
      |none=>rw[hj] at e;ext e
      |some o=>
       rw[hj] at e;cases o with
       |none=>ext e
       |some j=>
        have e:(match Y[j]? with|some (some (d,_))=>some (d,Tag.sh [])|_=>none)=some (d,t):=ach e;cases hr:Y[j]? with
        |none=>rw[hr] at e;ext e
        |some s=>
         rw[hr] at e;cases s with
         |none=>ext e
         |some p=>
          let#[d0,t0]:=p;have e1:d0=d/\Tag.sh []=t:=Prod.mk.inj (ach e);let#[rfl,rfl]:=e1;let#[v,fp,hs,r,_]:=cg.sl j d0 t0 hr;have hi:i∉is:=λm=>by rw[zk i m] at hj;ext hj
          refine#[v,fp,?_,r.same s2,λa m q e=>?_]
          .rw[Du i hi];unfold mQ;rw[adm,hj];show some ((U[j]?).join)=some (some v);rw[hs];rfl
          .let#[o,w,_]:=r.dW a m;dsimp only at e;rw[abo (nD w)] at e;ext e
     .let#[h,hm,rfl]:=acg.mp m;refine#[(hh h hm).1.same s2,λa ha q e=>?_];let#[o,w,_]:=(hh h hm).1.dW a ha;rw[abo (nD w)] at e;ext e
     .by_cases w:a=Dd
      .rw[w];apply#[HX,.inl vn]
      .rw[abo w] at e;ext e
    refine#[λi m aB H'=>m=ds.length - i/\aI H1 H'/\aB.length=js.length/\(∀j,j∉is->aB[j]? = (mQ js U)[j]?)/\∃done rest vs fp,H' Dd=some (.lst vs)/\aE X.K H' done vs fp/\fp.Nodup/\(∀a∈fp,H1 a=none/\a≠Dd)/\
     pJ (jH g tt te (jA js Y)) (ds.drop i)=some rest/\done++rest=es/\done.length<=i,?_,?_]
    .refine#[ds.length,rfl,λb o e=>by rw[aN (cX e vn)];apply e,by unfold mQ;rw[List.length_map],λ_ _=>rfl,[],es,[],[],bX,.nil,ac6,(λa m=>nomatch m),Ez,rfl,abD _]
    .rintro i m aB H' ⟨rfl,sH,hlen,Du,done,rest,vs,fp,hD,rs,nd,fr,hr,rfl,hle⟩
     let#[go,stop]:=Hr H' i λh m=>(hh h m).1.same sH
     by_cases hl:ds.length<=i
     .refine .inl #[stop hl,?_];rw[List.drop_eq_nil_of_le hl] at hr;ext hr;rw[acw] at k;refine k H' (.ref Dd) (Dd::fp) (s1.trans sH) (.lst hD rs) #[ab6.mpr #[λm=>(fr Dd m).2 rfl,nd],λa m=>?_];rcases aaO.mp m with e|m
      .rw[e];apply s1.free vn
      .exact s1.free (fr a m).1
     .have eT:i<ds.length:=Nat.lt_of_not_le hl;rw[aiJ eT] at hr;let#[g1,g2]:=go ds[i] (abm eT);refine .inr #[g1,λx H2 y=>?_];let#[s2,nR,r2,sub]:=g2 x H2 y;have tE:=inner aB H' sH #[_,hD] hlen Du;unfold pJ at hr;cases hE:jH g tt te (jA js Y) ds[i] with
      |none=>rw[hE] at hr;ext hr
      |some oe=>
       rw[hE] at hr;unfold jH at hE;cases sJ:g ds[i] (.sh []) (jA js Y) with
       |none=>rw[sJ] at hE;ext hE
       |some bf=>
        rw[sJ] at hE;dsimp only at hE;have Ys:di (λa=>if a=Dd then some js.length else none) H' (.sh []) nR:=λa m j e=>by
         let#[h,hm,ha]:=sub a m;let#[o,w,_]:=(hh h hm).1.dW a ha;dsimp only at e;rw[abo (cX w vn)] at e;ext e
        refine#[H1,[],_,_,jA js Y,H',ds[i],.sh [],nR,bf,tE,s2,r2,Ys,sJ,λz3 dz j9 RO=>?_];have MO:dz.length=js.length:=RO.1.trans hlen;have Nt:∀j,j∉is->dz[j]? = (mQ js U)[j]? :=λj hj=>(RO.2 j hj).trans (Du j hj)
        cases ht:tt bf with
        |none=>rw[ht] at hE;ext hE
        |some b=>
         rw[ht] at hE;refine#[H1,[],z3,_,bf,b,j9,ht,λH4 s4=>?_];have KZ:aI H1 H4:=(sH.trans s2).trans s4;have z8:aI H' H4:=s2.trans s4;cases b with
         |false=>
          ext hE;refine ahJ ?_;apply#[ds.length-(i+1),by lia,rfl,KZ,MO,Nt,done,rest,vs,fp,z8 _ _ hD,rs.same z8,nd,fr,hr,rfl,Nat.le_succ_of_le hle]
         |true=>
          refine ahX ?_;dsimp only at hE;cases Jw:te bf with
          |none=>rw[Jw] at hE;ext hE
          |some w=>
           let#[y,ty]:=w;rw[Jw] at hE;dsimp only at hE;refine#[H1,[],z3,_,bf,y,ty,j9.same s4,Jw,λH5 yv fy s5 ry gy=>?_];have zV:oe=some y/\fy.Nodup/\∀a∈fy,H4 a=none:=by
            by_cases ho:kj ty=true
            .rw[if_pos ho] at hE;ext hE;apply#[rfl,by ext ty<;>first|exact gy|ext ho]
            .rw[abo ho] at hE
             by_cases hi:aH y=true
             .rw[if_pos hi] at hE;ext hE;have hn:=ry.aH hi;subst hn;apply#[rfl,ac6,λa m=>nomatch m]
             .rw[abo hi] at hE;ext hE
           let#[rfl,ndy,IV]:=zV;dsimp only at hr;cases zj:pJ (jH g tt te (jA js Y)) (ds.drop (i+1)) with
           |none=>rw[zj] at hr;ext hr
           |some r'=>
            rw[zj] at hr;ext hr;have P9:aI H' H5:=z8.trans s5;have P4:H5 Dd=some (.lst vs):=P9 _ _ hD;have lv:vs.length<sizeLine:=by rw[<- rs.length];lia
            have im:bh H5 (upd H5 Dd (.lst (vs++[yv]))):=bh.upd P4 rfl;have n1:∀a∈fp++fy,a≠Dd:=λa m=>by
             rcases abC.mp m with m|m
             .exact(fr a m).2
             .intro e;have:=IV a m;rw[e,z8 _ _ hD] at this;ext this
            have XD:aE X.K H5 (done++[y]) (vs++[yv]) (fp++fy):=by
             have q:=aE.append (rs.same P9) (aE.cons ry .nil);rw[acw] at q;apply q
            refine#[vs,P4,lv,ds.length-(i+1),by lia,rfl,λb o e=>?_,MO,Nt,done++[y],r',vs++[yv],fp++fy,bX,XD.frame (λa m=>aN (n1 a m)) im,?_,λa m=>?_,zj,?_,?_]
            .rw[aN (cX e vn)];apply s5 _ _ (KZ _ _ e)
            .refine adQ.mpr #[nd,ndy,λa m b m' e=>?_];subst e;let#[o,w,_]:=(rs.same z8).dW a m;rw[IV a m'] at w;ext w
            .refine#[?_,n1 a m];rcases abC.mp m with m|m
             .exact(fr a m).1
             .exact KZ.free (IV a m)
            .rw[ae4];rfl
            .rw[aa3,ac7];lia
  .rw[abo hz] at e;ext e
def iT{ifs:List Expr}{tt:TF}{te:EF}{is:List Nat}(S:oN X M js sc)(hc:X.calm=true)(hi:FI X tg iter it)(zk:∀i∈is,js[i]? = some none)
  (hb:∀s3 H3 fp,FG (f_ X M sc s3 H3 fp) tg g is/\Cj (f_ X M sc s3 H3 fp) ifs tt/\FP (f_ X M sc s3 H3 fp) elt te) (hs:∀x,foldedSetIterable iter X.env x=pure x:=by intro _;rfl) :
  FP X (.ListComp elt [#[tg,iter,ifs,0]] sc pos) (eW js it g tt te):=by
 let#[wi,pi,si]:=hi;apply#[_,Zt (tt:=zc X.K tt) S hc pi (λs3 H3 fp=>#[(hb s3 H3 fp).1.pg,(hb s3 H3 fp).2.1,(hb s3 H3 fp).2.2.pe]) hs,@λH0 S z au Y U H Q d tg ok e k=>Sv zk si ok e k]
def qY(i:Nat){ifs:List Expr}{js:List (Option Nat)}{it:IF}{is:List Nat}(hN:X.N.Nodup)(S:oN X M js sc)(hc:X.calm=true)(hi:FI X tg iter it)
  (zk:∀i∈is,js[i]? = some none) (hb:∀s3 H3 fp,FG (f_ X M sc s3 H3 fp) tg g is/\Cj (f_ X M sc s3 H3 fp) ifs tt/\FP (f_ X M sc s3 H3 fp) elt te) (hy:X.N[i]? = some y:=by rfl) (hl:X.env.scope.names.lookup y=some .local:=by rfl)
  (jQ:swapsWith (.ListComp elt [#[tg,iter,ifs,0]] sc pos) (some (.Name y py)) Ib.line X.env=pure true:=by rfl) (hs:∀x,foldedSetIterable iter X.env x=pure x:=by intro _;rfl) (mT:lK X y=false:=by rfl) :
  fL X (.Assign [.Name y py] (.ListComp elt [#[tg,iter,ifs,0]] sc pos) Ib) (dw i (eW js it g tt te)):=by
 let#[wi,pi,si]:=hi;exists 23,aa7 (g:=La X.K g is) (tt:=zc X.K tt) (te:=E9 X.K te) hN hy hl S hc pi (λs3 H3 fp=>#[(hb s3 H3 fp).1.pg,(hb s3 H3 fp).2.1,(hb s3 H3 fp).2.2.pe]) jQ hs;unfold dw at e;exists h,eW js it g tt te Y,w,e,0;let#[d,tg]:=w;rw[h] at e;ext e;refine Sv zk si ok h λH1 v fp s1 r1 g1=>?_
 apply ok.stored s1 r1 g1 λz' bg=>k z' _ H1 bg (.set hy mT)
end
def xK(n:Nat)(ds:List D):aU:=ds.map (λd=>some (d,.sh []))++List.replicate (n-ds.length) none
def bu(n N:Nat)(b:SF):List D->Option D:=λds=>if ds.length=n then(match b (xK N ds) with
 |some (.rt d)=>some d
 |some (.nx _)=>some .aC
 |_=>none) else none
abbrev CF:=List D->List D->Option D
def C0(N:Nat)(es ds:List D):aU:=es.map (λd=>some (d,.own))++(ds.map (λd=>some (d,.sh []))++List.replicate (N-(ds.length+es.length)) none)
def runC(n N:Nat)(b:SF):CF:=λes ds=>if ds.length + es.length=n then(match b (C0 N es ds) with
 |some (.rt d)=>some d
 |some (.nx _)=>some .aC
 |_=>none) else none
def spC(K:Fr)(G:CF):Sp:=λvs H Q _=>∃us ws es ds bz gm d,vs=us++ws/\aE K H es us bz/\bz.Nodup/\aE K H ds ws gm/\(∀b∈gm,b∉bz)/\G es ds=some d/\
 ∀H' v fp,(∀a o,H a=some o->a∉bz->H' a=some o)->Rep K H' d v fp->fp.Nodup->(∀a∈fp,H a=none\/a∈bz)->Q v H'
def aE.own{K:Fr}:∀{es} {us} {fp} (k),aE K H es us fp->fp.Nodup->∃z:Addr->Option Nat,(∀i d,es[i]? = some d->∃v f,us[i]? = some v/\Rep K H d v f/\f.Nodup/\∀a∈f,z a=some (k+i))/\∀a j,z a=some j->a∈fp
 |_,_,_,_,.nil,_=>#[λ_=>none,λi d e=>by simp at e,λ_ _ e=>nomatch e]
 |_,_,_,k,.cons (f1:=f1) (f2:=f2) r t,n=>by
  classical
  let#[n1,n2,n3]:=adQ.mp n;let#[z,h1,h2]:=t.own (k+1) n2;refine#[λa=>if a∈f1 then some k else z a,λi d e=>?_,λa j e=>?_]
  .cases i with
   |zero=>ext e;apply#[_,f1,rfl,r,n1,λa m=>if_pos m]
   |succ i=>
    let#[v,f,a1,a2,a3,a4]:=h1 i d e;apply#[v,f,a1,a2,a3,λa m=>(abo λq=>n3 a q a (h2 a _ (a4 a m)) rfl).trans ((a4 a m).trans (by rw[Nat.add_assoc,Nat.add_comm 1]))]
  .dsimp only at e
   split at e
   .exact aa4 _ (by assumption)
   .exact aaS _ (h2 a j e)
section
variable{K:Fr}
def Ok.kh{H:Hp}(r0:aE K H es us bz)(nd:bz.Nodup)(rs:aE K H ds ws gm)(dj:∀b∈gm,b∉bz):∃z,Ok K H bz z [] (C0 N.length es ds) (start N (us++ws)) H:=by
 let#[z,h1,h2]:=r0.own 0 nd;have l0:=r0.length;have l1:=rs.length;unfold C0 start;rw[aea,ae4];refine#[z,λi d' t' e'=>?_,(λp m=>by ext m),(λa j e=>#[let#[o,w,_]:=r0.dW a (h2 a j e);#[o,w],.inr (h2 a j e)]),(λa o e _=>e),?_]
 .by_cases hi:i<es.length
  .rw[agG (by rw[List.length_map];apply hi),adm,abm hi] at e';ext e';let#[v,g,hv,rv,n',hz]:=h1 i _ (abm hi);rw[Nat.zero_add] at hz;apply#[v,g,(agG (by rw[List.length_map];lia)).trans (by rw[adm,hv];rfl),rv,n',hz]
  .rw[afs (by rw[List.length_map];lia),List.length_map] at e';rw[afs (by rw[List.length_map];lia),List.length_map,<- l0];generalize i-es.length=i at e' ⊢
   by_cases hi:i<ds.length
   .rw[agG (by rw[List.length_map];apply hi),adm,abm hi] at e';ext e';let#[v,g,hv,rv,sub]:=rs.get (abm hi);apply#[v,g,(agG (by rw[List.length_map];lia)).trans (by rw[adm,hv];rfl),rv,λa m j e=>(dj a (sub a m) (h2 a j e)).elim]
   .rw[afs (by rw[List.length_map];lia),List.getElem?_replicate] at e'
    split at e'<;>ext e'
 .simp only[aa3,List.length_map,adY]
  lia
def afk{st:Stmt}(F:iR K x qual st f fd)(S:mY N ps (c8 st))
  (hb:∀(aV:{c:Value // c=fd.code}) (A) (outer) (s) (H) (E),bx k (A.deeper (envOfC qual (c8 st) s.heap.objs.size f aV)) cm->FS (g_ dO P w K mg base N qual (c8 st) f aV A outer s H E cm).i7 (iz st) b) :
  b_ P w K mg base dO (k+1) f fd ps (spC K (runC ps.length N.length b)) cm:=by
 refine F.ok S (λvs H Q E h=>?_) (λaV A outer s H vs Q E hr h=>?_)<;>let#[us,ws,es,ds,bz,gm,d,e0,r0,nd,rs,dj,e,q]:=h
 .unfold runC at e
  split at e
  .rename_i h;rw[e0,aa3,<- r0.length,<- rs.length,Nat.add_comm,h]
  .cases e
 .let#[t,p,sd]:=hb aV A outer s H E hr;refine#[t,p,?_];let#[z,ok]:=Ok.kh r0 nd rs dj;rw[e0];unfold runC at e
  split at e
  .cases ho:b (C0 N.length es ds) with
   |none=>rw[ho] at e;ext e
   |some o=>
    rw[ho] at e;refine sd ok ho ?_;cases o with
    |rt d'=>ext e;apply q
    |nx Y'=>ext e;apply λz' aB H' bg _=>q H' .aC [] bg.en .aC ac6 λa m=>nomatch m
    |bk _=>ext e
    |ct _=>ext e
    |er _ _ _=>ext e
  .cases e
def DM{st:Stmt}(F:iR K x qual st f fd)(S:mY N ps (c8 st))
  (hb:∀(aV:{c:Value // c=fd.code}) (A) (outer) (s) (H) (E),bx k (A.deeper (envOfC qual (c8 st) s.heap.objs.size f aV)) cm->FS (g_ dO P w K mg base N qual (c8 st) f aV A outer s H E cm).i7 (iz st) b) :
  b_ P w K mg base dO (k+1) f fd ps (aX K (bu ps.length N.length b)) cm:=
 (afk F S hb).imp λvs H Q E #[ds,fp,d,rs,e,q]=>#[[],vs,[],ds,[],fp,d,rfl,.nil,.nil,rs,(λ_ _ m=>nomatch m),e,λH' v fp en r n fr=>q H' v fp (λa o e=>en a o e λm=>nomatch m) r n λa m=>(fr a m).resolve_right λm=>nomatch m]
end
def uW(f:Int->Int->Int):D->D->Option D
 |.int i,.int j=>some (.int (f i j))
 |_,_=>none
def uK(C:Int->Int->Bool)(f:Int->Int->Int):D->D->Option D
 |.int i,.int j=>if C i j=true then some (.int (f i j)) else none
 |_,_=>none
def wu(f:Int->Int->Bool):D->D->Option D
 |.int i,.int j=>some (.bl (f i j))
 |_,_=>none
def pO(i j:Int):Bool:=(decide (-(2 ^ 64)<i)&&decide (i<2 ^ 64))||(decide (-(2 ^ 64)<j)&&decide (j<2 ^ 64))
def HB(_ j:Int):Bool:=decide (0<j)
def f9:=uW λi j=>i+j
def lI:=uW λi j=>i-j
def AI:=uK pO λi j=>i*j
def oMod:=uK HB λi j=>i % j
def oLt:=wu λi j=>decide (i<j)
def oLe:=wu λi j=>decide (i<=j)
def qk:=wu λi j=>decide (j<i)
def BF:=wu λi j=>decide (j<=i)
def oEq:D->D->Option D
 |.int i,.int j=>some (.bl (i==j))
 |.bl i,.bl j=>some (.bl (i==j))
 |.str i,.str j=>some (.bl (i==j))
 |.aC,.aC=>some (.bl true)
 |_,_=>none
def k9:D->D->Option D
 |.int i,.int j=>some (.bl (!(i==j)))
 |.bl i,.bl j=>some (.bl (!(i==j)))
 |.str i,.str j=>some (.bl (!(i==j)))
 |.aC,.aC=>some (.bl false)
 |_,_=>none
def pK:D->Bool
 |.aC=>true
 |_=>false
def jv:D->D->Option D
 |d,.aC=>some (.bl (pK d))
 |_,_=>none
def wV:D->D->Option D
 |d,.aC=>some (.bl (!pK d))
 |_,_=>none
section
variable{K:Fr}
def Nb:gK K (nF λi j=>.int (g i j)) (uW g):=by
 intro H x y d1 d2 f1 f2 d Q r1 r2 e k;unfold uW at e
 split at e
 .cases e;apply#[_,_,r1.jm.1,r2.jm.1,k H _ (aI.refl H) (.int _)]
 .cases e
def sN:gK K (nF λi j=>.bl (g i j)) (wu g):=by
 intro H x y d1 d2 f1 f2 d Q r1 r2 e k;unfold wu at e
 split at e
 .cases e;apply#[_,_,r1.jm.1,r2.jm.1,k H _ (aI.refl H) (.bl _)]
 .cases e
def De(h:∀i j,c i j=true->C i j):gK K (rI C λi j=>.int (g i j)) (uK c g):=by
 intro H x y d1 d2 f1 f2 d Q r1 r2 e k;unfold uK at e
 split at e
 .rename_i i j;let#[hc,e]:=ci e;ext e;apply#[i,j,r1.jm.1,r2.jm.1,h i j hc,k H _ (aI.refl H) (.int _)]
 .cases e
def ahb(i j:Int)(h:pO i j=true):yN i j:=by
 unfold pO at h;unfold yN;rcases(aiR _ _).mp h with h|h
 .let#[a,b]:=(aaV _ _).mp h;apply .inl #[aaK a,aaK b]
 .let#[a,b]:=(aaV _ _).mp h;apply .inr #[aaK a,aaK b]
def Mz:gK K MP oEq:=by
 intro H x y d1 d2 f1 f2 d Q r1 r2 e k;unfold oEq at e
 split at e
 .cases e;rw[r1.jm.1,r2.jm.1];refine#[rfl,?_];rw[Ax];apply k H _ (aI.refl H) (.bl _)
 .cases e;rw[r1.Cr.1,r2.Cr.1];refine#[rfl,?_];rw[Ds];apply k H _ (aI.refl H) (.bl _)
 .cases e;rw[r1.zp.1,r2.zp.1];refine#[rfl,?_];rw[B8];apply k H _ (aI.refl H) (.bl _)
 .cases e;rw[r1.Ao.1,r2.Ao.1];apply#[rfl,by have:=k H (.bl true) (aI.refl H) (.bl _);simpa using this]
 .cases e
def Qh:gK K NN k9:=by
 intro H x y d1 d2 f1 f2 d Q r1 r2 e k;unfold k9 at e
 split at e
 .cases e;rw[r1.jm.1,r2.jm.1];refine#[rfl,?_];rw[Ax];apply k H _ (aI.refl H) (.bl _)
 .cases e;rw[r1.Cr.1,r2.Cr.1];refine#[rfl,?_];rw[Ds];apply k H _ (aI.refl H) (.bl _)
 .cases e;rw[r1.zp.1,r2.zp.1];refine#[rfl,?_];rw[B8];apply k H _ (aI.refl H) (.bl _)
 .cases e;rw[r1.Ao.1,r2.Ao.1];apply#[rfl,by have:=k H (.bl false) (aI.refl H) (.bl _);simpa using this]
 .cases e
theorem Rep.pK(r:Rep K H d v fp):decide (v=.aC)=pK d:=by
 ext r<;>first|rfl|exact aa8 (λe=>nomatch e)
def OR:gK K (λx y H Q=>y=.aC/\Q (.bl (decide (x=.aC))) H) jv:=by
 intro H x y d1 d2 f1 f2 d Q r1 r2 e k;unfold jv at e
 split at e
 .cases e;ext r2;refine#[rfl,?_];rw[r1.pK];apply k H _ (aI.refl H) (.bl _)
 .cases e
def ZG:gK K (λx y H Q=>y=.aC/\Q (.bl (!decide (x=.aC))) H) wV:=by
 intro H x y d1 d2 f1 f2 d Q r1 r2 e k;unfold wV at e
 split at e
 .cases e;ext r2;refine#[rfl,?_];rw[r1.pK];apply k H _ (aI.refl H) (.bl _)
 .cases e
end
section
variable{X:Cx}
def ez(ha:FP X a fa)(hb:FP X b fb):FP X (.BinOp a .Add b pos) (e2 f9 fa fb):=vH afu Nb ha hb
def u_(ha:FP X a fa)(hb:FP X b fb):FP X (.BinOp a .Sub b pos) (e2 lI fa fb):=vH WA Nb ha hb
def IM(ha:FP X a fa)(hb:FP X b fb):FP X (.BinOp a .Mult b pos) (e2 AI fa fb):=vH acE (De ahb) ha hb
def pA(ha:FP X a fa)(hb:FP X b fb):FP X (.BinOp a .Mod b pos) (e2 oMod fa fb):=vH agD (De λ_ _ h=>aaK h) ha hb
def CM(ha:FP X a fa)(hb:FP X b fb):FT X (.Compare a [.Lt] [b] pos) (tV (e2 oLt fa fb)):=jJ OT sN ha hb (jr _)
def ED(ha:FP X a fa)(hb:FP X b fb):FT X (.Compare a [.Gt] [b] pos) (tV (e2 qk fa fb)):=jJ Vo sN ha hb (jr _)
def An(ha:FP X a fa)(hb:FP X b fb):FT X (.Compare a [.GtE] [b] pos) (tV (e2 BF fa fb)):=jJ Yn sN ha hb (jr _)
def wg(ha:FP X a fa)(hb:FP X b fb):FT X (.Compare a [.Eq] [b] pos) (tV (e2 oEq fa fb)):=jJ Pk Mz ha hb (jr _)
def xq(ha:FP X a fa)(hb:FP X b fb):FT X (.Compare a [.NotEq] [b] pos) (tV (e2 k9 fa fb)):=jJ P1 Qh ha hb (jr _)
def Dp(ha:FP X a fa)(hb:FP X b fb):FT X (.Compare a [.Is] [b] pos) (tV (e2 jv fa fb)):=jJ Mc OR ha hb (jr _)
def Em(ha:FP X a fa)(hb:FP X b fb):FT X (.Compare a [.IsNot] [b] pos) (tV (e2 wV fa fb)):=jJ agB ZG ha hb (jr _)
def acJ(ha:FP X a fa)(hb:FP X b fb):FP X (.Compare a [.Eq] [b] pos) (e2 oEq fa fb):=qN Pk Mz ha hb (jr _)
def e1(op:D->Option D)(fa:EF):EF:=λY=>match fa Y with
 |some (d1,_)=>(op d1).map λd=>(d,.own)
 |none=>none
def ng(e:e1 op fa Y=some (d,tg)):∃d1 t1,fa Y=some (d1,t1)/\op d1=some d/\tg=.own:=by
 unfold e1 at e;exists h1,fa Y,p,e,0;let#[d1,t1]:=p;rw[h1] at e;dsimp only at e;exists h3,op d1,d3,e;ext e;apply#[d1,t1,rfl,h3,rfl]
def sQ(K:Fr)(r:List V->Hp->VK->Prop)(op:D->Option D):Prop:=∀(H) (x) (d1) (f1) (d) (Q),Rep K H d1 x f1->op d1=some d->
 (∀H' v fp,aI H H'->Rep K H' d v fp->fp.Nodup->(∀a∈fp,H a=none)->Q v H')->r [x] H Q
def fp_1(dd:sQ X.K r op)(ha:FP X a fa)(he:∀ta,PE X a ta->PE X e (FO r (Me ta Br))):FP X e (e1 op fa):=by
 let#[t,p,q]:=ha;exists 21,he t p;let#[d1,t1,h1,h2,rfl]:=ng e;refine q ok h1 λH1 x f1 s1 r1 _=>?_
 apply dd H1 x d1 f1 d Q r1 h2 λH2 v fp s2 r2 nd fr=>k H2 v fp (s1.trans s2) r2 #[nd,λa m=>s1.free (fr a m)]
def fW:D->Option D
 |.lst ds=>some (.int ds.length)
 |.dH ds=>some (.int ds.length)
 |.tup ds=>some (.int ds.length)
 |.bS es=>some (.int es.length)
 |_=>none
def gI.or'(h:gI X f r)(h':gI X f r'):gI X f (λxs H Q=>r xs H Q\/r' xs H Q):=by
 intro af s U H xs us Q I rv q;rcases q with q|q
 .exact h af s U H xs us Q I rv q
 .exact h' af s U H xs us Q I rv q
def Wp:sQ X.K (λxs H Q=>(∃p ys,xs=[V.ref p]/\(bY X.K H p ys\/cE X.K H p ys)/\Q (.int ys.length) H)\/(∃a ak,xs=[V.ref a]/\H a=some (.dK ak)/\Q (.int ak.length) H)) fW:=by
 intro H x d1 f1 d Q r e k;have fin:∀n:Nat,d=.int n->Q (.int n) H:=λn e=>by subst e;apply k H _ [] (aI.refl H) (.int _) ac6 λa m=>nomatch m
 cases d1 with
 |lst ds=>
  let#[a,xs,f,rfl,hq,rs,_]:=r.d_;ext e;apply .inl #[a,xs,rfl,.inl hq,by rw[<- rs.length];apply fin _ rfl]
 |dH ds=>
  let#[a,xs,rfl,hq,rs]:=r.qQ;ext e;apply .inl #[a,xs,rfl,.inl hq,by rw[<- rs.length];apply fin _ rfl]
 |tup ds=>
  let#[a,xs,rfl,hq,rs]:=r.jB;ext e;apply .inl #[a,xs,rfl,.inr hq,by rw[<- rs.length];apply fin _ rfl]
 |bS es=>
  cases r with
  |bS h hk rs=>
   ext e;refine .inr #[_,_,rfl,h,?_];have hl:=congrArg List.length hk;rw[List.length_map,List.length_map] at hl;rw[<- hl];apply fin _ rfl
 |_=>ext e
def jk(hm:X.mg "len"=none)(ha:FP X a fa)(hg:Gl X "len":=by rfl)(hs:starEach [a] X.env=[(false,eval a X.env)]:=by rfl):FP X (.Call (.Name "len" p) [a] [] pos) (e1 fW fa):=
 fp_1 Wp ha λta pa=>o9 (gI.or' ahr Xi) hg hm PySem.boot_len (cV pa fq hs) (he:=hs)
def vA:D->Option D
 |.lst ds=>if aP ds=true then some (.lst ds) else none
 |.tup ds=>if aP ds=true then some (.lst ds) else none
 |_=>none
def Vv:sQ X.K (λxs H Q=>∃p ys,xs=[V.ref p]/\(bY X.K H p ys\/cE X.K H p ys)/\∀l,H l=none->Q (.ref l) (upd H l (.lst ys))) vA:=by
 intro H x d1 f1 d Q r e k;have fin:∀{ds} {xs} {f},aE X.K H ds xs f->(if aP ds=true then some (D.lst ds) else none)=some d->∀l,H l=none->Q (.ref l) (upd H l (.lst xs)):=λ{ds xs f} rs e l hl=>by
  let#[hi,e]:=ci e;ext e;have hn:=rs.aH hi;subst hn;have s2:aI H (upd H l (.lst xs)):=λb o e=>by rw[aN (cX e hl)];apply e
  apply k _ _ [l] s2 (.lst bX (rs.same s2)) (ab6.mpr #[(λm=>by ext m),ac6]) λa m=>by cases aav.mp m;apply hl
 cases d1 with
 |lst ds=>
  let#[a,xs,f,rfl,hq,rs,_]:=r.d_;apply#[a,xs,rfl,.inl hq,fin rs e]
 |tup ds=>
  let#[a,xs,rfl,hq,rs]:=r.jB;apply#[a,xs,rfl,.inr hq,fin rs e]
 |_=>ext e
def mP(hm:X.mg "list"=none)(ha:FP X a fa)(hg:Gl X "list":=by rfl)(hs:starEach [a] X.env=[(false,eval a X.env)]:=by rfl):FP X (.Call (.Name "list" p) [a] [] pos) (e1 vA fa):=
 fp_1 Vv ha λta pa=>CG aai hg hm (by rfl) (cV pa fq hs) (he:=hs)
end
def fC:D->D->Option D
 |.dH ds,.int i=>(gG ds i).bind λd=>if aH d=true then some d else none
 |.lst ds,.int i=>(gG ds i).bind λd=>if aH d=true then some d else none
 |.tup ds,.int i=>(gG ds i).bind λd=>if aH d=true then some d else none
 |_,_=>none
def Yw{K:Fr}:gK K (λx y H Q=>Ge K x y H Q\/Ff K x y H Q\/KJ x y H Q) fC:=by
 intro H x y d1 d2 f1 f2 d Q r1 r2 e k;have key:∀{ds} {xs} {f} {i},aE K H ds xs f->((gG ds i).bind λd=>if aH d=true then some d else none)=some d->∃v,gG xs i=some v/\Rep K H d v []:=λ{ds xs f i} rs e=>by
  unfold gG at e ⊢;rw[<- rs.length];exists h,qv ds.length i,j,e,0;rw[h,adG] at e;rw[adG];exists h2,ds[j]?,d',e,0;rw[h2,adG] at e
  by_cases hi:aH d'=true
  .rw[if_pos hi] at e;ext e;let#[v,f',hv,rv,_]:=rs.get h2;have hn:=rv.aH hi;subst hn;apply#[v,hv,rv]
  .rw[abo hi] at e;ext e
 unfold fC at e
 split at e
 .let#[a,xs,rfl,hq,rs]:=r1.qQ;let#[v,hv,rv]:=key rs e;apply .inl #[a,xs,_,v,rfl,r2.jm.1,hq,hv,k H v (aI.refl H) rv]
 .let#[a,xs,f,rfl,hq,rs,_]:=r1.d_;let#[v,hv,rv]:=key rs e;apply .inl #[a,xs,_,v,rfl,r2.jm.1,hq,hv,k H v (aI.refl H) rv]
 .let#[a,xs,rfl,hq,rs]:=r1.jB;let#[v,hv,rv]:=key rs e;apply .inr (.inl #[a,xs,_,v,rfl,r2.jm.1,hq,hv,k H v (aI.refl H) rv])
 .cases e
def iG(ha:FP X a fa)(hb:FP X b fb)(hs:TZ b:=by apply λ_ _=>rfl):FP X (.Subscript a b pos) (e2 fC fa fb):=fp_2 Yw ha hb λ_ _ pa pb=>ae3 Y7 pa pb hs
def JH:eC d Y=some (d,.own):=rfl
def k1(op:D->Option D):Option (D×Tag)->Option (D×Tag)
 |some (d,_)=>(op d).map λd=>(d,.own)
 |none=>none
def uJ:e1 IX fa Y=k1 IX (fa Y):=by unfold e1 k1;cases fa Y<;>rfl
def DG:k1 IX (some (d,t))=(IX d).map λd=>(d,.own):=rfl
def k2(op:D->D->Option D):Option (D×Tag)->Option (D×Tag)->Option (D×Tag)
 |some (d1,_),some (d2,_)=>(op d1 d2).map λd=>(d,.own)
 |_,_=>none
def kM:e2 E6 fa fb Y=k2 E6 (fa Y) (fb Y):=by unfold e2 k2;cases fa Y<;>cases fb Y<;>rfl
def zU:k2 E6 (some (d1,t1)) (some (d2,t2))=(E6 d1 d2).map λd=>(d,.own):=rfl
def Q2:(some a).map f=some (f a):=rfl
def kV:Option (D×Tag)->Option Bool
 |some (.bl b,_)=>some b
 |_=>none
def yE:tV fa Y=Ev.kV (fa Y):=by
 unfold tV Ev.kV;cases fa Y with
 |none=>rfl
 |some p=>let#[d,t]:=p;ext d<;>rfl
def LJ(h:tf Y=some true):l9 tf tg Y=tg Y:=by unfold l9;rw[h]
def Pp(h:tf Y=some false):nY tf tg Y=tg Y:=by unfold nY;rw[h]
def Mf(h:tf Y=some a)(h2:tg Y=some b):l9 tf tg Y=some (a&&b):=by unfold l9;rw[h];ext a<;>first|exact h2|rfl
def R3(h:tf Y=some a)(h2:tg Y=some b):nY tf tg Y=some (a||b):=by unfold nY;rw[h];ext a<;>first|exact h2|rfl
def Ef:iW tf Y=(tf Y).map λb=>!b:=rfl
def Vw:eO Y=some (.nx Y):=rfl
def xZ(g:SF):Option Out->Option Out
 |some (.nx Y)=>g Y
 |o=>o
def jy:cz sf sg Y=xZ sg (sf Y):=by
 unfold cz xZ;cases sf Y with
 |none=>rfl
 |some o=>ext o<;>rfl
def oJ:xZ sg (some (.nx Y))=sg Y:=rfl
def Cp(sf sg:SF)(Y:aU):Option Bool->Option Out
 |some true=>sf Y
 |some false=>sg Y
 |none=>none
def iO:dN tf sf sg Y=Cp sf sg Y (tf Y):=by unfold dN Cp;cases tf Y<;>rfl
def Pu:Cp sf sg Y (some true)=sf Y:=rfl
def Mq:Cp sf sg Y (some false)=sg Y:=rfl
def M9:Option (D×Tag)->Option Out
 |some (d,t)=>if kj t=true then some (.rt d) else if aH d=true then some (.rt d) else none
 |none=>none
def Hi:iB fa Y=M9 (fa Y):=by unfold iB M9;cases fa Y<;>rfl
def BB(i:Nat)(Y:aU):Option (D×Tag)->Option Out
 |some (d,t)=>some (.nx (jt Y i d t))
 |none=>none
def Bq:dw i fa Y=BB i Y (fa Y):=by unfold dw BB;cases fa Y<;>rfl
def xM:aA Y=some []:=rfl
def mD:Option (D×Tag)->Option (List (D×Tag))->Option (List (D×Tag))
 |some p,some ps=>some (p::ps)
 |_,_=>none
def aM:ao fa a Y=mD (fa Y) (a Y):=by unfold ao mD;cases fa Y<;>cases a Y<;>rfl
def Dv:mD (some p) (some ps)=some (p::ps):=rfl
def s_call:bC F a Y=(a Y).bind λps=>(F (ps.map (·.1))).map λd=>(d,.own):=rfl
def Pb:(some a).bind f=f a:=rfl
def m6:ia a Y=(a Y).map λps=>(.tup (ps.map (·.1)),j4 ps):=rfl
def RP:f9 (.int m) (.int n)=some (.int (m+n)):=rfl
def Fo(h:pO m n=true):AI (.int m) (.int n)=some (.int (m*n)):=by show(if pO m n=true then some (D.int (m*n)) else none)=_;rw[if_pos h]
def qH(h:0<n):oMod (.int m) (.int n)=some (.int (m % n)):=by show(if HB m n=true then some (D.int (m % n)) else none)=_;rw[if_pos (show HB m n=true from aaC h)]
def ZD:oLt (.int m) (.int n)=some (.bl (decide (m<n))):=rfl
def XC:oLe (.int m) (.int n)=some (.bl (decide (m<=n))):=rfl
def aeN:BF (.int m) (.int n)=some (.bl (decide (n<=m))):=rfl
def OW:oEq (.int m) (.int n)=some (.bl (m==n)):=rfl
def oZ:fW (.lst ds)=some (.int ds.length):=rfl
def uF(h:gG ds m=some d)(hi:aH d=true):fC (.lst ds) (.int m)=some d:=by show((gG ds m).bind λd=>if aH d=true then some d else none)=_;rw[h,adG,if_pos hi]
def Z7(h:gG ds m=some d)(hi:aH d=true):fC (.dH ds) (.int m)=some d:=by show((gG ds m).bind λd=>if aH d=true then some d else none)=_;rw[h,adG,if_pos hi]
def UY(h:gG ds m=some d)(hi:aH d=true):fC (.tup ds) (.int m)=some d:=by show((gG ds m).bind λd=>if aH d=true then some d else none)=_;rw[h,adG,if_pos hi]
def bq(hl:ds.length=n)(h:b (xK N ds)=some (.rt d)):bu n N b ds=some d:=by unfold bu;rw[if_pos hl,h]
def dI(ns:List Int):D:=.dH (ns.map D.int)
def RM{ns:List Int}{i:Int}(h0:0<=i)(h1:i<ns.length):gG (ns.map D.int) i=some (.int (ns.getD i.toNat 0)):=by
 unfold gG qv;have h2:i.toNat<ns.length:=by omega
 rw[List.length_map,if_pos h0,if_pos h1,adG,adm,abm h2,adA,abm h2];rfl
section
variable[DecidableEq κ]
def aZ(es:List (κ×D))(k:κ):Option D:=(es.find? λkv=>decide (kv.1=k)).map (·.2)
def putD(es:List (κ×D))(k:κ)(d:D):List (κ×D):=
 if(es.any λkv=>decide (kv.1=k))=true then es.map (λkv=>if kv.1=k then(kv.1,d) else kv) else es++[(k,d)]
theorem sP{K:Fr}:∀{es}{ak:List (κ×V)} {fp},es.map (·.1)=ak.map (·.1)->aE K H (es.map (·.2)) (ak.map (·.2)) fp->
  (∀d,aZ es k=some d->∃v f,fN ak k=some v/\Rep K H d v f/\∀a∈f,a∈fp)/\(aZ es k=none->fN ak k=none)
 |[],[],_,_,_=>#[λd e=>(nomatch e),λ_=>rfl]
 |[],_::_,_,e,_=>by simp at e
 |_::_,[],_,e,_=>by simp at e
 |(q,d0)::es,(q',v0)::ak,fp,e,r=>by
  simp only[aaB,agT] at e;let#[rfl,e]:=e;simp only[aaB] at r;cases r with
  | @cons _ _ _ _ f1 f2 r1 r2=>
   let#[i1,i2]:=sP e r2
   by_cases h:q=k
   .have e1:aZ ((q,d0)::es) k=some d0:=by unfold aZ;rw[adV,aaC h];rfl
    refine#[λd ed=>?_,λen=>?_]
    .rw[e1] at ed;ext ed;apply#[v0,f1,wW h,r1,λa m=>aa4 _ m]
    .rw[e1] at en;ext en
   .have e1:aZ ((q,d0)::es) k=aZ es k:=by unfold aZ;rw[adV,aa8 h]
    rw[e1,yV h];apply#[λd ed=>let#[v,f,a,b,c]:=i1 d ed;#[v,f,a,b,λx m=>aaS _ (c x m)],i2]
def Dw{k:κ}(e:es.map (·.1)=ak.map (·.1)):(putD es k d).map (·.1)=(putK ak k v).map (·.1):=by
 have any:(es.any λkv=>decide (kv.1=k))=ak.any λkv=>decide (kv.1=k):=by
  have h1:(es.any λkv=>decide (kv.1=k))=(es.map (·.1)).any λx=>decide (x=k):=by rw[aiq];rfl
  have h2:(ak.any λkv=>decide (kv.1=k))=(ak.map (·.1)).any λx=>decide (x=k):=by rw[aiq];rfl
  rw[h1,h2,e]
 have m1:∀l:List (κ×D),(l.map λkv=>if kv.1=k then(kv.1,d) else kv).map (·.1)=l.map (·.1):=λl=>by
  rw[adK];congr 1;funext kv;show(if kv.1=k then(kv.1,d) else kv).1=kv.1;split<;>rfl
 have m2:∀l:List (κ×V),(l.map λkv=>if kv.1=k then(kv.1,v) else kv).map (·.1)=l.map (·.1):=λl=>by
  rw[adK];congr 1;funext kv;show(if kv.1=k then(kv.1,v) else kv).1=kv.1;split<;>rfl
 unfold putD putK;rw[any]
 by_cases h:(ak.any λkv=>decide (kv.1=k))=true
 .rw[if_pos h,if_pos h,m1,m2,e]
 .rw[abo h,abo h,aea,aea,e];rfl
def EN{K:Fr}{ak:List (κ×V)}(e:es.map (·.1)=ak.map (·.1))(r:aE K H (es.map (·.2)) (ak.map (·.2)) [])(rv:Rep K H d v []):
  aE K H ((putD es k d).map (·.2)) ((putK ak k v).map (·.2)) []:=by
 have any:(es.any λkv=>decide (kv.1=k))=ak.any λkv=>decide (kv.1=k):=by
  have h1:(es.any λkv=>decide (kv.1=k))=(es.map (·.1)).any λx=>decide (x=k):=by rw[aiq];rfl
  have h2:(ak.any λkv=>decide (kv.1=k))=(ak.map (·.1)).any λx=>decide (x=k):=by rw[aiq];rfl
  rw[h1,h2,e]
 have go:∀(es:List (κ×D)) (ak:List (κ×V)),es.map (·.1)=ak.map (·.1)->aE K H (es.map (·.2)) (ak.map (·.2)) []->aE K H ((es.map λkv=>if kv.1=k then(kv.1,d) else kv).map (·.2)) ((ak.map λkv=>if kv.1=k then(kv.1,v) else kv).map (·.2)) []:=by
  intro es
  induction es with
  |nil=>
   intro ak e r;cases ak with
   |nil=>apply .nil
   |cons _ _=>simp at e
  |cons p es ih=>
   intro ak e r;cases ak with
   |nil=>simp at e
   |cons p' ak=>
    let#[q,d0]:=p;let#[q',v0]:=p';simp only[aaB,agT] at e;let#[rfl,e]:=e;simp only[aaB] at r ⊢;generalize hf:([]:List Addr)=fp at r;cases r with
    | @cons _ _ _ _ f1 f2 r1 r2=>
     let#[h1,h2]:=ag4.mp hf.symm;subst h1 h2;have t:=ih ak e r2
     by_cases h:q=k
     .rw[if_pos h,if_pos h];apply aE.cons rv t
     .rw[abo h,abo h];apply aE.cons r1 t
 unfold putD putK;rw[any]
 by_cases h:(ak.any λkv=>decide (kv.1=k))=true
 .rw[if_pos h,if_pos h];apply go es ak e r
 .rw[abo h,abo h,aea,aea];apply aE.append r (aE.cons rv .nil)
end
def iw:D->Option Key
 |.int i=>some (.inl i)
 |.str x=>some (.inr x)
 |_=>none
def Rep.key{K:Fr}(r:Rep K H d y fp)(e:iw d=some k):y=L2.kV k:=by
 ext r<;>ext e<;>rfl
def m9:D->D->Option D
 |.bS es,kd=>match iw kd with
  |some k=>(aZ es k).bind λd=>if aH d=true then some d else none
  |none=>none
 |_,_=>none
def Yi:R2:=λx y H Q=>∃a v,x=.ref a/\jl H a y (some v)/\Q v H
def agt{K:Fr}:gK K Yi m9:=by
 intro H x y d1 d2 f1 f2 d Q r1 r2 e k;cases r1 with
 | @bS a ak es fp h hk rs=>
  have e:(match iw d2 with|some k=>(aZ es k).bind λd=>if aH d=true then some d else none|none=>none)=some d:=e;exists zg,iw d2,key,e;dsimp only at e;exists hv,aZ es key,d',e,0;rw[hv,adG] at e
  by_cases hi:aH d'=true
  .rw[if_pos hi] at e;ext e;let#[v,f,h1,r,_]:=(sP hk rs).1 d hv;have hn:=r.aH hi;subst hn;have ek:=r2.key zg;subst ek;have g:=jl.k (k:=key) h;rw[h1] at g;apply#[a,v,rfl,g,k H v (aI.refl H) r]
  .rw[abo hi] at e;ext e
 |_=>ext e
def z_(hu:X.A.units+1<cLine)(ha:FP X a fa)(hb:FP X b fb)(hs:yC b:=by apply λ_ _=>rfl):FP X (.Subscript a b pos) (e2 m9 fa fb):=
 fp_2 agt ha hb λ_ _ pa pb=>Wm hu pa pb hs
def uE(d1 d2 d3:D):Option D:=match d1,iw d2 with
 |.bS es,some k=>match aZ es k with
  |some d=>if aH d=true then some d else none
  |none=>if aH d3=true then some d3 else none
 |_,_=>none
def e3(op:D->D->D->Option D)(fa fb fc:EF):EF:=λY=>match fa Y,fb Y,fc Y with
 |some (d1,_),some (d2,_),some (d3,_)=>(op d1 d2 d3).map λd=>(d,.own)
 |_,_,_=>none
def X7(e:e3 op fa fb fc Y=some (d,tg)):∃d1 t1 d2 t2 d3 t3,fa Y=some (d1,t1)/\fb Y=some (d2,t2)/\fc Y=some (d3,t3)/\op d1 d2 d3=some d/\tg=.own:=by
 unfold e3 at e;exists h1,fa Y,p,e,0;cases h2:fb Y with
 |none=>rw[h1,h2] at e;ext e
 |some q=>
  cases h3:fc Y with
  |none=>rw[h1,h2,h3] at e;ext e
  |some r=>
   let#[d1,t1]:=p;let#[d2,t2]:=q;let#[d3,t3]:=r;rw[h1,h2,h3] at e;dsimp only at e;exists h4,op d1 d2 d3,d4,e;ext e;apply#[d1,t1,d2,t2,d3,t3,rfl,rfl,rfl,h4,rfl]
def adX{apos gR:Pos}(hu:X.A.units+1<cLine)(ha:FP X a fa)(hb:FP X b fb)(hc:FP X c fc)(m:M2 X a "get" apos b c gR:=by apply#[rfl,rfl,rfl,rfl]):FP X (.Call (.Attribute a "get" apos) [b,c] [] gR) (e3 uE fa fb fc):=by
 let#[ta,pa,sa]:=ha;let#[tb,pb,sb]:=hb;let#[tc,pc,sc]:=hc;exists 21,Ml hu pa pb pc m;let#[d1,t1,d2,t2,d3,t3,h1,h2,h3,h4,rfl]:=X7 e;refine sa ok h1 λH1 x f1 s1 r1 _=>?_
 cases d1 with
 |bS es=>
  cases r1 with
  | @bS p ak _ fp h hk rs=>
   refine#[p,rfl,.inl #[ak,.inl h],?_];refine sb (ok.same s1) h2 λH2 y f2 s2 r2 _=>?_
   refine sc ((ok.same s1).same s2) h3 λH3 w f3 s3 r3 _=>?_
   unfold uE at h4;exists zg,iw d2,key,h4;dsimp only at h4;have ek:=r2.key zg;subst ek;have C6:=s3 _ _ (s2 _ _ h);have g:=jl.k (k:=key) C6;refine#[_,g,?_];have SQ:=(s1.trans s2).trans s3;let#[i1,i2]:=sP hk ((rs.same s2).same s3);cases hv:aZ es key with
   |some d'=>
    rw[hv] at h4;dsimp only at h4;let#[hi,h4]:=ci h4;ext h4;let#[v,f,e1,r,_]:=i1 d hv;have hn:=r.aH hi;subst hn;rw[e1];apply k H3 v [] SQ r .nil
   |none=>
    rw[hv] at h4;dsimp only at h4;let#[hi,h4]:=ci h4;ext h4;rw[i2 hv];have hn:=r3.aH hi;subst hn;apply k H3 w [] SQ r3 .nil
 |_=>ext h4
def Y5:FP X (.Dict [] [] pos) (eC (.bS [])):=by
 refine#[_,acS,@λH0 S z au Y U H Q d tg ok e k p hp=>?_];ext e;have s2:aI H (upd H p (.dK [])):=λb o e=>by rw[aN (cX e hp)];apply e
 apply k _ _ [p] s2 (.bS bX rfl .nil) #[ab6.mpr #[(λm=>by ext m),ac6],λa m=>by cases aav.mp m;apply hp]
def Gg(i:Nat):Slot->Slot
 |some (d,.sh o)=>if o.contains i=true then none else some (d,.sh o)
 |s=>s
def cP(Y:aU)(i:Nat)(d:D):aU:=(Y.map (Gg i)).set i (some (d,.own))
def Ei(e:Gg i s=some (d,t)):s=some (d,t)/\∀o,t=.sh o->i∉o:=by
 cases s with
 |none=>ext e
 |some w=>
  let#[d',t']:=w;cases t' with
  |sh o=>
   have e:(if o.contains i=true then none else some (d',Tag.sh o))=some (d,t):=e
   split at e
   .cases e
   .rename_i hc;ext e;apply#[rfl,λo' eo m=>by ext eo;apply hc (afg.mpr m)]
  |own=>ext e;apply#[rfl,λo eo=>by ext eo]
  |lk=>ext e;apply#[rfl,λo eo=>by ext eo]
def Qx(hj:j≠i)(e:(cP Y i d1)[j]? = some (some (d,t))):Y[j]? = some (some (d,t))/\(P\/∀o,t=.sh o->i∉o):=by
 unfold cP at e;rw[ac8 (agM hj),adm] at e;let#[s,e0,e]:=adq.mp e;let#[rfl,n]:=Ei e;apply#[e0,.inr n]
def MK(h:Y[i]? = some d0):(cP Y i d1)[i]? = some (some (d1,.own)):=aeT (by rw[List.length_map];apply(ac0.mp h).1)
def Ot:(cP Y i d1).length=Y.length:=by unfold cP;rw[ahn,List.length_map]
def Ok.put{K:Fr}(ok:Ok K H0 S z au Y U H)(h:Y[i]? = some (some (d0,.own)))
  (hs:U[i]? = some (some v)) (zz:vf z i .own bz) (im:bh H H') (keep:∀b o,b∉bz->H b=some o->H' b=some o) (r1:Rep K H' d1 v bV) (nd:bV.Nodup) (fr:∀b∈bV,b∈bz\/H b=none):∃z',Ok K H0 S z' au (cP Y i d1) U H':=
 #[_,ok.chg (MK h) hs zz.2 im keep r1 #[nd,λa m=>if_pos m] (G_ zz.2) (λa m=>#[fr a m,let#[o,w,_]:=r1.dW a m;#[o,w]]) Qx (λ_ _=>rfl) (.inr λn=>n _ h) (Ot.trans ok.ln)]
def Ok.Ew{K:Fr}(ok:Ok K H0 S z au Y U H)(h:Y[i]? = some (some (d0,.own)))
  (hs:U[i]? = some (some v)) (zz:vf z i .own fp) (hp:p∈fp) (ho:H p=some o) (mo:lJ o=true) (r1:Rep K (upd H p o') d1 v fp):Ok K H0 S z au (cP Y i d1) U (upd H p o'):=
 ok.chg (MK h) hs zz.2 (bh.upd ho mo) (λb o n e=>by rw[aN λq:b=p=>n (q ▸ hp)];apply e) r1 zz (λa n=>.inr #[rfl,n,λ_ n=>n _ h]) (λa m=>#[.inl m,let#[o,w,_]:=r1.dW a m;#[o,w]]) Qx (λ_ _=>rfl) (.inr λn=>n _ h) (Ot.trans ok.ln)
def tO(i:Nat)(fk fv:EF):SF:=λY=>match fv Y,Y[i]?,fk Y with
 |some (d,_),some (some (.bS es,.own)),some (kd,_)=>match iw kd with
  |some k=>if(aH d&&aP (es.map (·.2))&&decide (es.length<sizeLine))=true then some (.nx (cP Y i (.bS (putD es k d)))) else none
  |none=>none
 |_,_,_=>none
def Ql(i:Nat){x:Str}{k v:Expr}(hu:X.A.units+1<cLine)(hk:FP X k fk)(hv:FP X v fv)(va:VA X i x:=by walk_at "va")(hs:swapsWith v (some (.Subscript (.Name x p1) k pos')) pos.line X.env=pure false:=by rfl):
  fL X (.Assign [.Subscript (.Name x p1) k pos'] v pos) (tO i fk fv):=by
 let#[tk,pk,sk]:=hk;let#[tv,mJ,sv]:=hv;exists 25,IC hu va.pe pk mJ hs;unfold tO at e
 split at e
 .rename_i d td es kd Z8 h1 h2 h3;exists h4,iw kd,key,e;dsimp only at e;let#[hc,e]:=ci e;ext e;let#[GR,ZV]:=(aaV _ _).mp hc;let#[GR,JF]:=(aaV _ _).mp GR;have hz:=aaK ZV;refine sv ok h1 λH1 v W_ s1 rv _=>?_
  let#[xv,fp,cZ,r,zz]:=(ok.same s1).sl i _ _ h2;refine#[xv,cZ,?_];refine sk (ok.same s1) h3 λH2 y fk' s2 rk _=>?_
  have ek:=rk.key h4;subst ek;have r':=r.same s2;cases r' with
  | @bS a ak _ f h je rs=>
   have hn:=rs.aH JF;subst hn;have EX:=rv.aH GR;subst EX;have hl:ak.length=es.length:=by have:=congrArg List.length je;simpa using this.symm
   refine#[a,_,rfl,uZ.k h (by rw[hl];apply hz),?_];have im:bh H2 (upd H2 a (.dK (putK ak key v))):=bh.upd h rfl;refine q z U _ (Ok.Ew ((ok.same s1).same s2) h2 cZ zz aah h rfl (.bS bX (Dw je) ?_)) (.refl _ _);apply EN je (rs.frame (λa m=>nomatch m) im) ((rv.same s2).frame (λa m=>nomatch m) im)
 .cases e
def vE(x:Int):List Int->List Int
 |[]=>[x]
 |y::r=>if x<=y then x::y::r else y::vE x r
def e_:List Int->List Int
 |[]=>[]
 |x::r=>vE x (e_ r)
theorem EI(x:Int):∀l:List Int,(vE x l).Perm (x::l)
 |[]=>.refl _
 |y::r=>by
  unfold vE
  split
  .exact .refl _
  .exact((EI x r).cons y).trans (.swap x y r)
theorem sX:∀l:List Int,(e_ l).Perm l
 |[]=>.refl _
 |x::r=>(EI x (e_ r)).trans ((sX r).cons x)
theorem TY(x:Int):∀{l},l.Pairwise (·<=·)->(vE x l).Pairwise (·<=·)
 |[],_=>ahA _ _
 |y::r,h=>by
  let#[h1,h2]:=aew.mp h;unfold vE
  split
  .rename_i hx;apply aew.mpr #[λz m=>(aaO.mp m).elim (λe=>e ▸ hx) λm=>Int.le_trans hx (h1 z m),h]
  .rename_i hx;refine aew.mpr #[λz m=>?_,TY x h2];rcases aaO.mp ((EI x r).mem_iff.mp m) with e|m
   .rw[e];lia
   .exact h1 z m
theorem Gy:∀l:List Int,(e_ l).Pairwise (·<=·)
 |[]=>.nil
 |x::r=>TY x (Gy r)
def Z1(p:a.Perm b)(s:a.Pairwise (·<=·)):a=e_ b:=by
 have q:=p.trans (sX b).symm;apply q.eq_of_pairwise (λx y _ _ h1 h2=>Int.le_antisymm h1 h2) s (Gy b)
def Fz(l:List Int):(e_ l).length=l.length:=(sX l).length_eq
def eF:List D->Option (List Int)
 |[]=>some []
 |.int i::r=>(eF r).map (i::·)
 |_=>none
def kg{α:Type}:List (Key×α)->Option (List Int)
 |[]=>some []
 |(.inl i,_)::r=>(kg r).map (i::·)
 |_=>none
theorem tR{K:Fr}:∀{ds} {xs} {fp} {ns},aE K H ds xs fp->eF ds=some ns->xs=ns.map V.int
 |_,_,_,ns,.nil,e=>by ext e;rfl
 |_,_,_,ns,.cons (d:=d) h t,e=>by
  cases d with
  |int i=>
   unfold eF at e;exists q,eF _,r,e;ext e;ext h;rw[tR t q];rfl
  |_=>ext e
def sU(ns:List Int):eF (ns.map D.int)=some ns:=by
 induction ns with
 |nil=>rfl
 |cons n r ih=>rw[aaB];unfold eF;rw[ih];rfl
theorem O7:∀{es:List (Key×α)} {ks},kg es=some ks->es.map (·.1)=ks.map Sum.inl
 |[],ks,e=>by ext e;rfl
 |(.inl i,_)::r,ks,e=>by
  unfold kg at e;exists q,kg r,l,e;ext e;rw[aaB,O7 q];rfl
 |(.inr _,_)::_,_,e=>by ext e
def m7:D->Option D
 |.lst ds=>match eF ds with
  |some ns=>if ns.length<64 then some (.lst ((e_ ns).map D.int)) else none
  |none=>none
 |.bS es=>match kg es with
  |some ns=>if ns.length<64 then some (.lst ((e_ ns).map D.int)) else none
  |none=>none
 |_=>none
theorem zo{K:Fr}:∀ns:List Int,aE K H (ns.map D.int) (ns.map V.int) []
 |[]=>.nil
 |n::r=>aE.cons (.int n) (zo r)
def Uu{K:Fr}:sQ K (Qq K) m7:=by
 intro H x d1 f1 d Q r e k;have fin:∀(ns:List Int),(if ns.length<64 then some (D.lst ((e_ ns).map D.int)) else none)=some d->ns.length<64/\∀l (pq:List Int),H l=none->pq.Perm ns->pq.Pairwise (·<=·)->Q (.ref l) (upd H l (.lst (pq.map V.int))):=λns e=>by
  by_cases h:ns.length<64
  .rw[if_pos h] at e;ext e;refine#[h,λl pq hl p s=>?_];have eq:=Z1 p s;subst eq;have s2:aI H (upd H l (.lst ((e_ ns).map V.int))):=λb o e=>by rw[aN (cX e hl)];apply e
   apply k _ _ [l] s2 (.lst bX (zo _)) (ab6.mpr #[(λm=>by ext m),ac6]) λa m=>by cases aav.mp m;apply hl
  .rw[abo h] at e;ext e
 cases d1 with
 |lst ds=>
  let#[a,xs,f,rfl,hq,rs,_]:=r.d_;have e:(match eF ds with|some ns=>if ns.length<64 then some (D.lst ((e_ ns).map D.int)) else none|none=>none)=some d:=e;cases h:eF ds with
  |none=>rw[h] at e;ext e
  |some ns=>
   rw[h] at e;let#[h1,h2]:=fin ns e;have ex:=tR rs h;subst ex;apply#[a,ns,rfl,h1,.inr hq,h2]
 |bS es=>
  cases r with
  | @bS a ak _ fp h hk rs=>
   have e:(match kg es with|some ns=>if ns.length<64 then some (D.lst ((e_ ns).map D.int)) else none|none=>none)=some d:=e;cases h':kg es with
   |none=>rw[h'] at e;ext e
   |some ns=>
    rw[h'] at e;let#[h1,h2]:=fin ns e;apply#[a,ns,rfl,h1,.inl #[ak,h,by rw[<- hk];apply O7 h'],h2]
 |_=>ext e
def i9:List D->Option (List (Key×D))
 |[]=>some []
 |.tup [kd,d]::r=>match iw kd,i9 r with
  |some k,some ps=>if aH d=true then some ((k,d)::ps) else none
  |_,_=>none
 |_=>none
def yj:D->Option D
 |.lst ds=>(i9 ds).map λps=>.bS (ps.foldl (λm p=>putD m p.1 p.2) [])
 |.tup ds=>(i9 ds).map λps=>.bS (ps.foldl (λm p=>putD m p.1 p.2) [])
 |.bS es=>if aP (es.map (·.2))=true then some (.bS es) else none
 |_=>none
def Yo:bootBuiltins "min"=some (.builtin "min"):=by decide +kernel
def aej:bootBuiltins "sorted"=some (.builtin "sorted"):=by decide +kernel
def IS(hc:X.calm=true)(hm:X.mg "sorted"=none)(ha:FP X a fa)(hg:Gl X "sorted":=by rfl)(hs:starEach [a] X.env=[(false,eval a X.env)]:=by rfl):FP X (.Call (.Name "sorted" p) [a] [] pos) (e1 m7 fa):=
 fp_1 Uu ha λta pa=>o9 (afl hc) hg hm aej (cV pa fq hs) (he:=hs)
def Bm:D->D->Option D:=uW λi j=>if j<i then j else i
def kq:List Int->Int
 |[]=>0
 |[x]=>x
 |x::r=>if x<=kq r then x else kq r
theorem HG:∀{l},l≠[]->kq l∈l/\∀x∈l,kq l<=x
 |[x],_=>#[aah,λy m=>by rw[aav.mp m];apply Int.le_refl _]
 |x::y::r,_=>by
  let#[h1,h2]:=HG (l:=y::r) (by simp);show(if x<=kq (y::r) then x else kq (y::r))∈_/\∀z∈_,(if x<=kq (y::r) then x else kq (y::r))<=z
  by_cases h:x<=kq (y::r)
  .rw[if_pos h];apply#[aah,λz m=>(aaO.mp m).elim (λe=>by rw[e];apply Int.le_refl _) λm=>Int.le_trans h (h2 z m)]
  .rw[abo h];apply#[aab _ h1,λz m=>(aaO.mp m).elim (λe=>by rw[e];lia) λm=>h2 z m]
def af9:D->D->Option D
 |.lst ds,z=>match eF ds with
  |some []=>if aH z=true then some z else none
  |some (n::r)=>some (.int (kq (n::r)))
  |none=>none
 |_,_=>none
def adW(hc:X.calm=true)(hm:X.mg "min"=none)(ha:FP X a fa)(hb:FP X b fb)(hg:Gl X "min":=by rfl)(hs:starEach [a,b] X.env=[(false,eval a X.env),(false,eval b X.env)]:=by rfl)(ck:starEach [b] X.env=[(false,eval b X.env)]:=by rfl)(hpl:(backTo pos (starEach [b] X.env)).any (·.1)=false:=by rfl):
  FP X (.Call (.Name "min" p) [a,b] [] pos) (e2 Bm fa fb):=by
 let#[ta,pa,sa]:=ha;let#[tb,pb,sb]:=hb;exists 21,o9 (abJ hc) hg hm Yo (cV pa (cV pb fq ck) (by rw[hs,ck])) (he:=by rw[hs,ck]) (hpl:=hpl);let#[d1,t1,d2,t2,h1,h2,h3,rfl]:=rD e;refine sa ok h1 λH1 x f1 s1 r1 _=>?_
 refine sb (ok.same s1) h2 λH2 y f2 s2 r2 _=>?_
 unfold Bm uW at h3
 split at h3
 .cases h3;apply#[_,_,by rw[r1.jm.1,r2.jm.1],k H2 _ [] (s1.trans s2) (.int _) .nil]
 .cases h3
def adJ(hc:X.calm=true)(hm:X.mg "min"=none)(ha:FP X a fa)(hb:FP X b fb)(hg:Gl X "min":=by rfl)(hs:starEach [a] X.env=[(false,eval a X.env)]:=by rfl)
  (h1:backTo pos (starEach [a] X.env)=(false,eval a X.env)::backTo pos (starEach [] X.env):=by rfl) (h2:(backTo pos (starEach [a] X.env)).any (·.1)=false:=by rfl)
  (h3:(backToKw pos (keywordEach [#[some "default",b,kp]] X.env)).all (·.1.isSome)=true:=by rfl) (h4:(backToKw pos (keywordEach [#[some "default",b,kp]] X.env)).any (·.1.isNone)=false:=by rfl)
  (h5:(backToKw pos (keywordEach [#[some "default",b,kp]] X.env)).filterMap (·.1)=[("default":Str)]:=by rfl) :
  FP X (.Call (.Name "min" p) [a] [#[some "default",b,kp]] pos) (e2 af9 fa fb):=by
 let#[ta,pa,sa]:=ha;let#[tb,pb,sb]:=hb;exists 21,ZQ hc hm pa pb hg hs h1 h2 h3 h4 h5;let#[d1,t1,d2,t2,g1,g2,g3,rfl]:=rD e;refine sa ok g1 λH1 x f1 s1 r1 _=>?_
 refine sb (ok.same s1) g2 λH2 y f2 s2 r2 _=>?_
 cases d1 with
 |lst ds=>
  let#[l,xs,f,rfl,hq,rs,_]:=(r1.same s2).d_;have g3:(match eF ds with|some []=>if aH d2=true then some d2 else none|some (n::r)=>some (.int (kq (n::r)))|none=>none)=some d:=g3;cases h:eF ds with
  |none=>rw[h] at g3;ext g3
  |some ns=>
   rw[h] at g3;have ex:=tR rs h;subst ex;refine#[l,ns,rfl,hq,?_];cases ns with
   |nil=>
    have g3:=g3
    by_cases hi:aH d2=true
    .rw[if_pos hi] at g3;ext g3;have hn:=r2.aH hi;subst hn;apply .inl #[rfl,k H2 y [] (s1.trans s2) r2 .nil]
    .rw[abo hi] at g3;ext g3
   |cons n r=>
    ext g3;refine .inr #[by simp,λm n6 mV=>?_];let#[q1,q2]:=HG (l:=n::r) (by simp);have em:=Int.le_antisymm (mV _ q1) (q2 m n6);rw[em];apply k H2 _ [] (s1.trans s2) (.int _) .nil
 |_=>ext g3
theorem Rr{K:Fr}:∀{ds} {xs} {fp} {ps},aE K H ds xs fp->i9 ds=some ps->
  ∃qs:List (Key×V),Paired (λy (q:Key×V)=>∃a,y=.ref a/\cE K H a [L2.kV q.1,q.2]) xs qs/\ps.map (·.1)=qs.map (·.1)/\aE K H (ps.map (·.2)) (qs.map (·.2)) []
 |_,_,_,ps,.nil,e=>by ext e;apply#[[],.nil,rfl,.nil]
 |_,_,_,ps,.cons (d:=d) (ds:=dr) h t,e=>by
  unfold i9 at e
  split at e
  .rename_i heq;ext heq
  .rename_i kd d' r heq;ext heq;exists h1,iw kd,k,e,0;cases h2:i9 dr with
   |none=>rw[h1,h2] at e;ext e
   |some pr=>
    rw[h1,h2] at e;dsimp only at e;let#[hi,e]:=ci e;ext e;let#[qs,a1,a2,a3]:=Rr t h2;let#[a,ys,rfl,hq,rs]:=h.jB;cases rs with
    |cons rk rs=>
     cases rs with
     |cons rv rs=>
      cases rs with
      |nil=>
       have ek:=rk.key h1;subst ek;have hn:=rv.aH hi;subst hn;apply#[(k,_)::qs,.cons #[a,rfl,hq] a1,by rw[aaB,aaB,a2],aE.cons rv a3]
  .cases e
theorem Qj{K:Fr}:∀{ps:List (Key×D)}{qs:List (Key×V)} {es} {ak},ps.map (·.1)=qs.map (·.1)->aE K H (ps.map (·.2)) (qs.map (·.2)) []->es.map (·.1)=ak.map (·.1)->aE K H (es.map (·.2)) (ak.map (·.2)) []->
  (ps.foldl (λm p=>putD m p.1 p.2) es).map (·.1)=(qs.foldl (λm q=>putK m q.1 q.2) ak).map (·.1)/\aE K H ((ps.foldl (λm p=>putD m p.1 p.2) es).map (·.2)) ((qs.foldl (λm q=>putK m q.1 q.2) ak).map (·.2)) []
 |[],[],_,_,_,_,h1,h2=>#[h1,h2]
 |[],_::_,_,_,e,_,_,_=>by simp at e
 |_::_,[],_,_,e,_,_,_=>by simp at e
 |(k,d)::ps,(k',v)::qs,es,ak,e,r,h1,h2=>by
  simp only[aaB,agT] at e;let#[rfl,e]:=e;simp only[aaB] at r;generalize hf:([]:List Addr)=fp at r;cases r with
  | @cons _ _ _ _ f1 f2 r1 r2=>
   let#[z1,z2]:=ag4.mp hf.symm;subst z1 z2;rw[aeO,aeO];apply Qj e r2 (Dw h1) (EN h1 h2 r1)
def adn{K:Fr}:sQ K (λxs H Q=>Ey K xs H Q\/∃a ak,xs=[V.ref a]/\H a=some (.dK ak)/\∀l,H l=none->Q (.ref l) (upd H l (.dK ak))) yj:=by
 intro H x d1 f1 d Q r e k;have fresh:∀{o:HO} {l},H l=none->aI H (upd H l o):=λhl b o e=>by rw[aN (cX e hl)];apply e
 have Mi:∀l:Addr,([l]:List Addr).Nodup:=λl=>ab6.mpr #[(λm=>by ext m),ac6]
 have seq:∀{ds} {xs} {f} {p},aE K H ds xs f->(bY K H p xs\/cE K H p xs)->((i9 ds).map λps=>D.bS (ps.foldl (λm p=>putD m p.1 p.2) []))=some d->Ey K [.ref p] H Q:=λ{ds xs f p} rs hq e=>by
  exists h,i9 ds,ps,e;ext e;let#[qs,a1,a2,a3]:=Rr rs h;refine#[p,xs,qs,rfl,hq,a1,λl hl=>?_];let#[b1,b2]:=Qj (es:=[]) (ak:=[]) a2 a3 rfl .nil;apply k _ _ [l] (fresh hl) (.bS bX b1 (b2.same (fresh hl))) (Mi l) λa m=>by cases aav.mp m;apply hl
 cases d1 with
 |lst ds=>
  let#[a,xs,f,rfl,hq,rs,_]:=r.d_;apply .inl (seq rs (.inl hq) e)
 |tup ds=>
  let#[a,xs,rfl,hq,rs]:=r.jB;apply .inl (seq rs (.inr hq) e)
 |bS es=>
  cases r with
  | @bS a ak _ fp h hk rs=>
   have e:(if aP (es.map (·.2))=true then some (D.bS es) else none)=some d:=e;let#[hi,e]:=ci e;ext e;have hn:=rs.aH hi;subst hn;apply .inr #[a,ak,rfl,h,λl hl=>k _ _ [l] (fresh hl) (.bS bX hk (rs.same (fresh hl))) (Mi l) λa m=>by cases aav.mp m;apply hl]
 |_=>ext e
section
variable{X:Cx}
def agL:gI X (.type "dict") (λxs H Q=>∃a ak,xs=[V.ref a]/\H a=some (.dK ak)/\∀l,H l=none->Q (.ref l) (upd H l (.dK ak))):=by
 intro af s U H xs us Q I r h;let#[a,ak,rfl,ha,q]:=h;let#[u,rfl,ru]:=vals1 r;ext ru;apply Z4 I (.inl ha) λp s' hp I'=>#[.ref p,_,I',rfl,q p hp]
def za{p:Pos}(hc:X.calm=true)(hm:X.mg "dict"=none)(ha:FP X a fa)(hg:Gl X "dict":=by rfl)(hs:starEach [a] X.env=[(false,eval a X.env)]:=by rfl):FP X (.Call (.Name "dict" p) [a] [] pos) (e1 yj fa):=
 fp_1 adn ha λta pa=>CG (gI.or' (Yr hc) agL) hg hm (show bootBuiltins "dict"=some (.type "dict") by decide +kernel) (cV pa fq hs) (he:=hs)
def BW:D->Option D
 |.lst ds=>if aP ds=true then some (.tup ds) else none
 |.tup ds=>if aP ds=true then some (.tup ds) else none
 |_=>none
def Za:sQ X.K (λxs H Q=>∃p ys,xs=[V.ref p]/\((bY X.K H p ys/\∀l,H l=none->Q (.ref l) (upd H l (.tup ys)))\/(cE X.K H p ys/\Q (.ref p) H))) BW:=by
 intro H x d1 f1 d Q r e k;cases d1 with
 |lst ds=>
  let#[a,xs,f,rfl,hq,rs,_]:=r.d_;have e:(if aP ds=true then some (D.tup ds) else none)=some d:=e;let#[hi,e]:=ci e;ext e;have hn:=rs.aH hi;subst hn;refine#[a,xs,rfl,.inl #[hq,λl hl=>?_]];have s2:aI H (upd H l (.tup xs)):=λb o e=>by rw[aN (cX e hl)];apply e
  apply k _ _ [] s2 (.tup (cE.of bX) (rs.same s2)) ac6 λa m=>nomatch m
 |tup ds=>
  let#[a,xs,rfl,hq,rs]:=r.jB;have e:(if aP ds=true then some (D.tup ds) else none)=some d:=e;let#[hi,e]:=ci e;ext e;have hn:=rs.aH hi;subst hn;apply#[a,xs,rfl,.inr #[hq,k H _ [] (aI.refl H) (.tup hq rs) ac6 λa m=>nomatch m]]
 |_=>ext e
def wB{p:Pos}(hm:X.mg "tuple"=none)(ha:FP X a fa)(hg:Gl X "tuple":=by rfl)(hs:starEach [a] X.env=[(false,eval a X.env)]:=by rfl):FP X (.Call (.Name "tuple" p) [a] [] pos) (e1 BW fa):=
 fp_1 Za ha λta pa=>CG YY hg hm (show bootBuiltins "tuple"=some (.type "tuple") by decide +kernel) (cV pa fq hs) (he:=hs)
end
def xJ(N:List Str)(vo sc:Scope)(M:List Str)(js:List (Option Nat)):Bool:=
 (sc.kind == .function)&&sc.names.all (λy=>y.2 != .cell)&&sc.names.all (λy=>if y.2 == .local then sc.names.lookup y.1==some .local else true)&&oB N sc M js&&(frees sc).all (λx=>vo.names.lookup x==some .cell||vo.names.lookup x==some .free)&&decide M.Nodup
def ahz(h1:X.N=N)(h2:X.env.scope=vo)(h3:X.env.kindOf=λx=>vo.names.lookup x)(h:xJ N vo sc M js=true):oN X M js sc:=by
 unfold xJ at h;let#[h,a6]:=(aaV _ _).mp h;let#[h,a5]:=(aaV _ _).mp h;let#[h,a4]:=(aaV _ _).mp h;let#[h,a3]:=(aaV _ _).mp h;let#[a1,a2]:=(aaV _ _).mp h;refine#[?_,λy hy=>?_,λy hy hl=>?_,?_,λx hx=>?_,aaK a6]
 .cases hk:sc.kind<;>rw[hk] at a1<;>first|rfl|exact absurd a1 (by decide)
 .have:=aei.mp a2 y hy;intro z;rw[z] at this;apply absurd this (by decide)
 .have:=aei.mp a3 y hy;rw[hl] at this;have this:=this;cases q:sc.names.lookup y.1 with
  |none=>rw[q] at this;apply absurd this (by decide)
  |some k=>rw[q] at this;ext k<;>first|rfl|exact absurd this (by decide)
 .rw[h1];apply a4
 .have:=aei.mp a5 x hx;rw[h3];dsimp only;cases q:vo.names.lookup x with
  |none=>rw[q] at this;apply absurd this (by decide)
  |some k=>rw[q] at this;ext k<;>first|exact .inl rfl|exact .inr rfl|exact absurd this (by decide)
def di.back(g:di z H1 t fp)(s:aI H H1):di z H t fp:=by
 cases t with
 |sh o=>apply g
 |own=>apply#[g.1,λa m=>s.free (g.2 a m)]
 |lk=>apply#[g.1,λa m=>s.free (g.2 a m)]
def vp(fa fb:EF):EF:=λY=>match fa Y with
 |some (.bl true,_)=>fb Y
 |some (.bl false,_)=>some (.bl false,.own)
 |_=>none
def P7:D->Option D
 |.bl b=>some (.bl (!b))
 |_=>none
def nC{op}(h:FP X a fa):FP X (.BoolOp op [a] pos) fa:=let#[t,p,q]:=h;#[t,RJ p,q]
def kC{rest:List Expr}(ha:FP X a fa)(hb:FP X (.BoolOp .And (b::rest) pos) fb):FP X (.BoolOp .And (a::b::rest) pos) (vp fa fb):=by
 let#[t,p,q]:=ha;let#[t',p',q']:=hb;exists 21,ae2 p p';unfold vp at e
 split at e
 .rename_i tt h;refine q ok h λH1 v fp s1 r1 _=>?_
  ext r1;refine#[true,rfl,?_];rw[if_pos rfl];apply q' (ok.same s1) e λH2 v fp s2 r2 g2=>k H2 v fp (s1.trans s2) r2 (g2.back s1)
 .rename_i tt h;ext e;refine q ok h λH1 v fp s1 r1 _=>?_
  ext r1;refine#[false,rfl,?_];rw[abo aa2];apply k H1 _ [] s1 (.bl _) .nil
 .cases e
def Ly(ha:FP X a fa):FP X (.UnaryOp .Not a pos) (e1 P7 fa):=by
 let#[t,p,q]:=ha;exists 21,aeb p;let#[d1,t1,h1,h2,rfl]:=ng e;refine q ok h1 λH1 v fp s1 r1 _=>?_
 ext r1<;>ext h2
 apply#[_,rfl,k H1 _ [] s1 (.bl _) .nil]
def gQ:D->D->Option D
 |.lst ds,.lst es=>if(aP ds&&aP es&&decide (ds.length+es.length<=sizeLine))=true then some (.lst (ds++es)) else none
 |_,_=>none
def uU(ha:FP X a fa)(hb:FP X b fb):FP X (.BinOp a .Add b pos) (e2 gQ fa fb):=by
 let#[ta,pa,sa]:=ha;let#[tb,pb,sb]:=hb;exists 20,R5 acY pa pb;let#[d1,t1,d2,t2,e1,d7,e3,rfl]:=rD e;refine sa ok e1 λH1 x f1 s1 r1 _=>?_
 refine sb (ok.same s1) d7 λH2 y f2 s2 r2 _=>?_
 unfold gQ at e3
 split at e3
 .rename_i ds es;let#[hc,e3]:=ci e3;ext e3;let#[c1,c3]:=(aaV _ _).mp hc;let#[c1,c2]:=(aaV _ _).mp c1;have r1:=r1.same s2;cases r1 with
  | @lst p xs _ f h rs=>
   cases r2 with
   | @lst p' ys _ f' h' JL=>
    have n1:=rs.aH c1;have n2:=JL.aH c2;subst n1 n2;refine#[p,p',xs,ys,rfl,rfl,h,h',by rw[<- rs.length,<- JL.length];apply aaK c3,λl hl=>?_];have s3:aI H2 (upd H2 l (.lst (xs++ys))):=λb o e=>by rw[aN (cX e hl)];apply e
    have rr:=aE.append rs JL;refine q _ _ [l] ((s1.trans s2).trans s3) (.lst bX (rr.same s3)) #[ab6.mpr #[(λm=>by ext m),ac6],λa m=>?_];cases aav.mp m;apply(s1.trans s2).free hl
 .cases e3
def Co:D->Option String
 |.int _=>some "int"
 |.bl _=>some "bool"
 |.str _=>some "str"
 |.aC=>some "NoneType"
 |.lst _=>some "list"
 |.bS _=>some "dict"
 |_=>none
def xT(T:String)(d:D):Option D:=match Co d with
 |some t=>some (.bl (t==T||(t == "bool"&&T == "int")))
 |none=>none
def yi(T:String):Prop:=∀(K) (t),t∈["int","bool","str","NoneType","list","dict"]->PySem.W.kitOne K (.type t) (.type T)=some (t==T||(t == "bool"&&T == "int"))
def V_:yi "int":=by
 intro K t m;simp only[aaO,acL,aiE] at m;rcases m with rfl|rfl|rfl|rfl|rfl|rfl<;>rfl
def PU:yi "bool":=by
 intro K t m;simp only[aaO,acL,aiE] at m;rcases m with rfl|rfl|rfl|rfl|rfl|rfl<;>rfl
def OC(T:String):gI X (.builtin "isinstance") (λxs H Q=>∃x t b,xs=[x,V.ty T]/\jD X.K H x t/\PySem.W.kitOne X.K t (.type T)=some b/\Q (.bl b) H):=by
 intro af s U H xs us Q I r h;let#[x,t,bb,rfl,ty,e,q]:=h;let#[u,w',rfl,ru,eB]:=vals2 r;ext eB;apply ag5 I ru ty e λtk=>#[.bl bb,H,I.tok tk,rfl,q]
def Rep.ty{K:Fr}(r:Rep K H d v fp)(e:Co d=some t):jD K H v (.type t)/\t∈["int","bool","str","NoneType","list","dict"]:=by
 cases r with
 |aC=>ext e;apply#[.aC,by decide]
 |bl b=>ext e;apply#[.bl b,by decide]
 |int i=>ext e;apply#[.int i,by decide]
 |str x=>ext e;apply#[.str x,by decide]
 |lst h _=>ext e;apply#[.lst h,by decide]
 |bS h _ _=>ext e;apply#[.dK h,by decide]
 |tup _ _=>ext e
 |uT _ _=>ext e
 |fY _ _ _=>ext e
 |ins _ _ _ _=>ext e
 |exc _ _ _=>ext e
def Lh{T:String}(hT:yi T)(hm:X.mg "isinstance"=none)(HP:X.mg x=none)(ha:FP X a fa)(sG:bootBuiltins x=some (.type T):=by decide +kernel)(hg:Gl X "isinstance":=by rfl)(HQ:Gl X x:=by rfl)(hn:x≠"__name__":=by decide)(eU:(x==("__debug__":Str))=false:=by decide)
  (hs:starEach [a,.Name x p2] X.env=[(false,eval a X.env),(false,eval (.Name x p2) X.env)]:=by rfl) (hpl:(backTo pos (starEach [.Name x p2] X.env)).any (·.1)=false:=by rfl):FP X (.Call (.Name "isinstance" p) [a,.Name x p2] [] pos) (e1 (xT T) fa):=by
 let#[ta,pa,sa]:=ha;have ck:starEach [.Name x p2] X.env=[(false,eval (.Name x p2) X.env)]:=rfl;exists 21,o9 (OC T) hg hm (show bootBuiltins "isinstance"=some (.builtin "isinstance") by decide +kernel) (cV pa (cV (z7 (v:=.ty T) HQ HP sG rfl hn eU) fq) (by rw[hs,ck])) (he:=by rw[hs,ck]);let#[d1,t1,h1,h2,rfl]:=ng e;refine sa ok h1 λH1 v fp s1 r1 _=>?_
 unfold xT at h2;exists ht,Co d1,t,h2;ext h2;let#[ty,mem]:=r1.ty ht;apply#[v,_,_,rfl,ty,hT X.K t mem,k H1 _ [] s1 (.bl _) .nil]
end L2.Ev
namespace L2.Ev
open PySem
def k3(op:D->D->D->Option D):Option (D×Tag)->Option (D×Tag)->Option (D×Tag)->Option (D×Tag)
 |some (d1,_),some (d2,_),some (d3,_)=>(op d1 d2 d3).map λd=>(d,.own)
 |_,_,_=>none
def aen:e3 U5 fa fb fc Y=k3 U5 (fa Y) (fb Y) (fc Y):=by unfold e3 k3;cases fa Y<;>cases fb Y<;>cases fc Y<;>rfl
def Rm(fb:EF)(Y:aU):Option (D×Tag)->Option (D×Tag)
 |some (.bl true,_)=>fb Y
 |some (.bl false,_)=>some (.bl false,.own)
 |_=>none
def aey:vp fa fb Y=Rm fb Y (fa Y):=by
 unfold vp Rm;cases fa Y with
 |none=>rfl
 |some w=>let#[d,t]:=w;ext d<;>first|rfl|(rename_i b;ext b<;>rfl)
def UB:jv d .aC=some (.bl (pK d)):=rfl
def AQ(hi:it Y=some (ds,t))(h:dD g (lu t) f ds (oW (mW (mF t) Y) Y)=some (.nx Y')):jM it g f Y=some (.nx (uc (mW (mF t) Y) Y')):=by unfold jM;rw[hi];dsimp only;rw[h]
def Pe(hi:it Y=some (ds,t))(h:dD g (lu t) f ds (oW (mW (mF t) Y) Y)=some (.rt r)):jM it g f Y=some (.rt r):=by unfold jM;rw[hi];dsimp only;rw[h]
def lM(hi:it Y=some (ds,.own))(h:dD g (.sh []) f ds Y=some (.nx Y')):jM it g f Y=some (.nx Y'):=AQ hi h
def Py(hi:it Y=some (ds,.own))(h:dD g (.sh []) f ds Y=some (.rt r)):jM it g f Y=some (.rt r):=Pe hi h
def ir1(h:e Y=some (.int n,t))(hs:small n=true):sS e Y=some ((List.range n.toNat).map λi:Nat=>D.int (0+(i:Int)),.own):=by unfold sS;rw[h];dsimp only;rw[if_pos hs]
def gX(h:e Y=some (.lst ds,t)):fG e Y=some (ds,t):=by unfold fG;rw[h]
def kH(hi:it Y=some (ds,t))(hl:ds.length<sizeLine)(h:∀d∈ds,jH g tt te (jA js Y) d=some (k d)):
  eW js it g tt te Y=some (.lst (ds.filterMap k),.own):=by unfold eW;rw[hi];dsimp only;rw[if_pos hl,Sf h];rfl
def Bd(h1:g d (.sh []) Y=some bf)(h2:tt bf=some false):jH g tt te Y d=some none:=by unfold jH;rw[h1];dsimp only;rw[h2]
def nL(h1:g d (.sh []) Y=some bf)(h2:tt bf=some true)(h3:te bf=some (e,.own)):jH g tt te Y d=some (some e):=by unfold jH;rw[h1];dsimp only;rw[h2];dsimp only;rw[h3];rfl
def v9(h1:g d (.sh []) Y=some bf)(h2:tt bf=some true)(h3:te bf=some (e,tg))(hi:aH e=true):jH g tt te Y d=some (some e):=by
 unfold jH;rw[h1];dsimp only;rw[h2];dsimp only;rw[h3];dsimp only
 by_cases ho:kj tg=true
 .rw[if_pos ho]
 .rw[abo ho,if_pos hi]
def kI(p:Int×Int):Key×D:=(Sum.inl p.1,.int p.2)
def cM(es:List (Int×Int)):D:=.bS (es.map kI)
def bR(es:List (Int×Int))(k:Int):Option Int:=(es.find? λp=>decide (p.1=k)).map (·.2)
def gS(es:List (Int×Int))(k v:Int):List (Int×Int):=if(es.any λp=>decide (p.1=k))=true then es.map (λp=>if p.1=k then(p.1,v) else p) else es++[(k,v)]
def uY:((Sum.inl a:Key)=Sum.inl k)↔a=k:=#[λh=>aiV h,λh=>by rw[h]]
def Qp(es:List (Int×Int))(k:Int):aZ (es.map kI) (Sum.inl k:Key)=(bR es k).map D.int:=by
 unfold aZ bR
 induction es with
 |nil=>rfl
 |cons p r ih=>
  rw[aaB,adV,adV]
  by_cases h:p.1=k
  .rw[aaC (show(kI p).1=Sum.inl k from uY.mpr h),aaC h];rfl
  .rw[aa8 (show ¬(kI p).1=Sum.inl k from λe=>h (uY.mp e)),aa8 h];apply ih
def PY(es:List (Int×Int))(k v:Int):putD (es.map kI) (Sum.inl k:Key) (.int v)=(gS es k v).map kI:=by
 unfold putD gS;have e:((es.map kI).any λkv=>decide (kv.1=(Sum.inl k:Key)))=es.any λp=>decide (p.1=k):=by
  rw[aiq]
  congr 1
  funext p
  apply aiz.mpr uY
 rw[e]
 by_cases h:(es.any λp=>decide (p.1=k))=true
 .rw[if_pos h,if_pos h,adK,adK]
  congr 1
  funext p
  show(if(kI p).1=Sum.inl k then((kI p).1,D.int v) else kI p)=kI (if p.1=k then(p.1,v) else p)
  by_cases hp:p.1=k
  .rw[if_pos hp,if_pos (show(kI p).1=Sum.inl k from uY.mpr hp)];rfl
  .rw[abo hp,abo (show ¬(kI p).1=Sum.inl k from λe=>hp (uY.mp e))]
 .rw[abo h,abo h,aea];rfl
def Zb:uE (cM es) (.int k) (.int z)=some (.int ((bR es k).getD z)):=by
 show(match aZ (es.map kI) (Sum.inl k:Key) with|some d=>if aH d=true then some d else none|none=>if aH (.int z)=true then some (.int z) else none)=_;rw[Qp];cases bR es k<;>rfl
def aed(h:bR es k=some v):m9 (cM es) (.int k)=some (.int v):=by
 show((aZ (es.map kI) (Sum.inl k:Key)).bind λd=>if aH d=true then some d else none)=_;rw[Qp,h];rfl
theorem Um:∀es:List (Int×Int),kg (es.map kI)=some (es.map (·.1))
 |[]=>rfl
 |p::r=>by rw[aaB];show(kg (r.map kI)).map (p.1::·)=_;rw[Um r];rfl
def Vu(h:es.length<64):m7 (cM es)=some (.lst ((e_ (es.map (·.1))).map D.int)):=by
 show(match kg (es.map kI) with|some ns=>if ns.length<64 then some (D.lst ((e_ ns).map D.int)) else none|none=>none)=_;rw[Um];dsimp only;rw[if_pos (by rw[List.length_map];apply h)]
theorem ME:∀es:List (Int×Int),aP ((es.map kI).map (·.2))=true
 |[]=>rfl
 |p::r=>by rw[aaB,aaB];unfold aP;rw[ME r];rfl
def Pj(h1:fv Y=some (.int v,t1))(h2:Y[i]? = some (some (cM es,.own)))(h3:fk Y=some (.int k,t2))(hl:es.length<sizeLine):
  tO i fk fv Y=some (.nx (cP Y i (cM (gS es k v)))):=by
 unfold tO;rw[h1,h2,h3];unfold cM;dsimp only[iw];rw[if_pos (by rw[ME,List.length_map,aaC hl];rfl),PY]
def Bk(es:List (Int×Int))(k v j:Int):bR (gS es k v) j=if j=k then some v else bR es j:=by
 unfold gS
 by_cases h:(es.any λp=>decide (p.1=k))=true
 .rw[if_pos h];unfold bR
  induction es with
  |nil=>ext h
  |cons p r ih=>
   rw[aaB,adV,adV]
   by_cases hp:p.1=k
   .rw[if_pos hp];dsimp only
    by_cases hj:j=k
    .rw[aaC (hp.trans hj.symm),if_pos hj];rfl
    .have xP:¬p.1=j:=λe=>hj (e.symm.trans hp)
     rw[aa8 xP,abo hj];dsimp only
     by_cases hr:(r.any λp=>decide (p.1=k))=true
     .rw[ih hr,abo hj]
     .congr 1
      have:r.map (λp=>if p.1=k then(p.1,v) else p)=r:=by
       conv=>rhs;rw[<- List.map_id r]
       refine afw λq m=>?_
       rw[abo λe=>hr (aeK.mpr #[q,m,aaC e])];rfl
      rw[this]
   .rw[abo hp];have hr:(r.any λp=>decide (p.1=k))=true:=by
     rw[aiu,aa8 hp] at h;apply h
    by_cases hj:p.1=j
    .rw[aaC hj,abo λe=>hp (hj.trans e)]
    .rw[aa8 hj];apply ih hr
 .rw[abo h];unfold bR;rw[List.find?_append]
  by_cases hj:j=k
  .have:(es.find? λp=>decide (p.1=j))=none:=ahs.mpr λq m hq=>h (aeK.mpr #[q,m,by rw[<- hj];apply hq])
   rw[this,if_pos hj,hj];simp
  .rw[abo hj];have:([(k,v)].find? λp=>decide (p.1=j))=none:=ahs.mpr λq m hq=>hj (by cases aav.mp m;apply(aaK hq).symm)
   rw[this,Option.or_none]
def Rk(es:List (Int×Int))(k v:Int):(gS es k v).map (·.1)=if k∈es.map (·.1) then es.map (·.1) else es.map (·.1)++[k]:=by
 unfold gS
 by_cases h:(es.any λp=>decide (p.1=k))=true
 .have hm:k∈es.map (·.1):=by
   let#[p,m,hp]:=aeK.mp h;apply acg.mpr #[p,m,aaK hp]
  rw[if_pos h,if_pos hm,adK];refine afw λp m=>?_
  show(if p.1=k then(p.1,v) else p).1=p.1
  split<;>rfl
 .have hm:k∉es.map (·.1):=λm=>by
   let#[p,m,hp]:=acg.mp m;apply h (aeK.mpr #[p,m,aaC hp])
  rw[abo h,abo hm,aea];rfl
def RT(h:(es.map (·.1)).Nodup):((gS es k v).map (·.1)).Nodup:=by
 rw[Rk]
 by_cases hm:k∈es.map (·.1)
 .rw[if_pos hm];apply h
 .rw[abo hm];apply adQ.mpr #[h,ab6.mpr #[(λm=>by ext m),ac6],λa ha b hb e=>hm (by cases aav.mp hb;apply e ▸ ha)]
def Z5:(gS es k v).length<=es.length+1:=by
 have:=congrArg List.length (Rk es k v);rw[List.length_map] at this;rw[this]
 split
 .rw[List.length_map];lia
 .rw[aa3,List.length_map];apply abD _
def rK:(∃v,bR es k=some v)↔k∈es.map (·.1):=by
 unfold bR;constructor
 .rintro⟨v,h⟩
  cases e:es.find? λp=>decide (p.1=k) with
  |none=>rw[e] at h;ext h
  |some p=>apply acg.mpr #[p,ahf e,aaK (aiS e :)]
 .intro h;let#[p,m,hp]:=acg.mp h;cases e:es.find? λp=>decide (p.1=k) with
  |none=>apply absurd (aaC hp) (ahs.mp e p m)
  |some q=>apply#[q.2,rfl]
def iE(ps:List (Int×Int)):List (Int×Int):=ps.foldl (λm p=>gS m p.1 p.2) []
theorem foldI:∀(ps m:List (Int×Int)),(ps.map kI).foldl (λm p=>putD m p.1 p.2) (m.map kI)=(ps.foldl (λm p=>gS m p.1 p.2) m).map kI
 |[],_=>rfl
 |p::r,m=>by rw[aaB,aeO,aeO];show(r.map kI).foldl _ (putD (m.map kI) (Sum.inl p.1) (.int p.2))=_;rw[PY];apply foldI r _
def dP(p:Int×Int):D:=.tup [.int p.1,.int p.2]
theorem Qe:∀ps:List (Int×Int),i9 (ps.map dP)=some (ps.map kI)
 |[]=>rfl
 |p::r=>by
  rw[aaB];show(match iw (.int p.1),i9 (r.map dP) with|some k,some ps=>if aH (.int p.2)=true then some ((k,D.int p.2)::ps) else none|_,_=>none)=_;rw[Qe r];rfl
def MD:yj (.lst (ps.map dP))=some (cM (iE ps)):=by
 show(i9 (ps.map dP)).map _=_;rw[Qe];show some (D.bS ((ps.map kI).foldl (λm p=>putD m p.1 p.2) []))=_;rw[show([]:List (Key×D))=([]:List (Int×Int)).map kI from rfl,foldI];rfl
def RQ(hn:(ps.map (·.1)).Nodup)(k:Int):bR (iE ps) k=bR ps k:=by
 have go:∀(ps m),(ps.map (·.1)).Nodup->bR (ps.foldl (λm p=>gS m p.1 p.2) m) k=(bR ps k).or (bR m k):=by
  intro ps
  induction ps with
  |nil=>intro m _;rfl
  |cons p r ih=>
   intro m h;rw[aaB] at h;let#[h1,h2]:=ab6.mp h;rw[aeO,ih _ h2,Bk]
   by_cases hk:k=p.1
   .have hr:bR r k=none:=by
     cases e:bR r k with
     |none=>rfl
     |some v=>apply absurd (rK.mp #[v,e]) (hk ▸ h1)
    rw[hr,if_pos hk];unfold bR;rw[adV,aaC hk.symm];rfl
   .rw[abo hk];have:bR (p::r) k=bR r k:=by unfold bR;rw[adV,aa8 λe=>hk e.symm]
    rw[this]
 unfold iE;rw[go ps [] hn];cases bR ps k<;>rfl
open PySem PySem.Spec PyProof.Rows
mutual
def py:D->PyData
 |.bl b=>.bool b
 |.int i=>.int i
 |.str x=>.str x
 |.tup ds=>.tuple (fP ds)
 |.lst ds=>.list (fP ds)
 |.dH ds=>.list (fP ds)
 |_=>.none
def fP:List D->List PyData
 |[]=>[]
 |d::ds=>py d::fP ds
end
mutual
def gb:D->Bool
 |.aC|.bl _|.int _|.str _=>true
 |.tup ds|.lst ds|.dH ds=>lT ds
 |_=>false
def lT:List D->Bool
 |[]=>true
 |d::ds=>gb d&&lT ds
end
mutual
theorem pP(I:Inv X af U H s):∀{d} {v} {f} {u},Rep X.K H d v f->RelV v u->gb d=true->∃as,Reads s.heap u (py d) as
 |.aC,_,_,_,r,q,_=>by ext r;ext q;apply#[_,by unfold py;apply .none]
 |.bl b,_,_,_,r,q,_=>by ext r;ext q;apply#[_,by unfold py;apply .bool b]
 |.int i,_,_,_,r,q,_=>by ext r;let#[t,rfl]:=q;apply#[_,by unfold py;apply .int i t]
 |.str x,_,_,_,r,q,_=>by ext r;let#[t,rfl]:=q;apply#[_,by unfold py;apply .str x t]
 |.tup ds,_,_,_,r,q,e=>by
  let#[a,xs,rfl,hq,rs]:=r.jB;ext q;let#[us,v1,#[o,h1,h2,n,h3],_]:=I.tuple hq;let#[as,ra]:=Ad I rs v1 (by unfold gb at e;apply e);apply#[_,by unfold py;apply .tuple h1 h2 h3 (by simpa using ra)]
 |.lst ds,_,_,_,r,q,e=>by
  let#[a,xs,f,rfl,hq,rs,_]:=r.d_;ext q;let#[us,v1,#[o,n,h1,h2,_,h3],_]:=I.list hq;let#[as,ra]:=Ad I rs v1 (by unfold gb at e;apply e);apply#[_,by unfold py;apply .list h1 h2 h3 (by simpa using ra)]
 |.dH ds,_,_,_,r,q,e=>by
  let#[a,xs,rfl,hq,rs]:=r.qQ;ext q;let#[us,v1,#[o,n,h1,h2,_,h3],_]:=I.list hq;let#[as,ra]:=Ad I rs v1 (by unfold gb at e;apply e);apply#[_,by unfold py;apply .list h1 h2 h3 (by simpa using ra)]
 |.bS _,_,_,_,_,_,e=>by unfold gb at e;ext e
 |.fY _,_,_,_,_,_,e=>by unfold gb at e;ext e
 |.ins _ _,_,_,_,_,_,e=>by unfold gb at e;ext e
 |.exc _,_,_,_,_,_,e=>by unfold gb at e;ext e
theorem Ad(I:Inv X af U H s):∀{ds} {xs} {f} {us},aE X.K H ds xs f->aR xs us->lT ds=true->∃as,ReadsAll s.heap us (fP ds) as
 |[],_,_,_,r,q,_=>by ext r;ext q;apply#[_,by unfold fP;apply .nil]
 |d::ds,_,_,_,r,q,e=>by
  cases r with
  |cons r1 r2=>
   cases q with
   |cons q1 q2=>
    unfold lT at e;let#[e1,e2]:=(aaV _ _).mp e;let#[as,h1]:=pP I r1 q1 e1;let#[bs,h2]:=Ad I r2 q2 e2;apply#[_,by unfold fP;apply .cons h1 h2]
end
def v7(r:List Int):D:=.tup (r.map D.int)
def g9(rs:List (List Int)):List D:=rs.map v7
theorem yp:∀r:List Int,fP (r.map D.int)=r.map PyData.int
 |[]=>rfl
 |i::r=>by rw[aaB,aaB];unfold fP;rw[yp r];unfold py;rfl
theorem Cz:∀r:List Int,lT (r.map D.int)=true
 |[]=>rfl
 |i::r=>by rw[aaB];unfold lT;rw[Cz r];rfl
theorem depthAll_ints:∀r:List Int,PyData.depthAll (r.map PyData.int)=0
 |[]=>rfl
 |i::r=>by rw[aaB];simp only[PyData.depthAll,PyData.depth,depthAll_ints r];rfl
def jZ(r:List Int):PyData:=.tuple (r.map PyData.int)
def Y8(r:List Int):py (v7 r)=jZ r:=by unfold v7 jZ;unfold py;rw[yp]
theorem GJ:∀rs:List (List Int),fP (g9 rs)=rs.map jZ
 |[]=>rfl
 |r::rs=>by
  show fP (v7 r::g9 rs)=jZ r::rs.map jZ;unfold fP;rw[Y8,GJ rs]
theorem R7:∀rs:List (List Int),lT (g9 rs)=true
 |[]=>rfl
 |r::rs=>by
  show lT (v7 r::g9 rs)=true;unfold lT;rw[R7 rs,Bool.and_true];unfold v7 gb;apply Cz r
def dg(d:D):Bool:=gb d&&(py d).canLay0&&decide ((py d).depth<=40)
def qf(d1 d2:D):Option D:=if(dg d1&&dg d2)=true then some (.bl (PyData.eqv (py d1) (py d2))) else none
def nS(d1 d2:D):Option D:=if(dg d1&&dg d2)=true then some (.bl (!PyData.eqv (py d1) (py d2))) else none
def BL(K:Fr)(neg:Bool):R2:=λx y H Q=>∃d1 d2 f1 f2,Rep K H d1 x f1/\Rep K H d2 y f2/\dg d1=true/\dg d2=true/\Q (.bl (if neg=true then !PyData.eqv (py d1) (py d2) else PyData.eqv (py d1) (py d2))) H
def lay_of(h:dg d=true):gb d=true/\(py d).canLay0=true/\(py d).depth<=40:=by
 unfold dg at h;let#[h,h3]:=(aaV _ _).mp h;let#[h1,h2]:=(aaV _ _).mp h;apply#[h1,h2,aaK h3]
def MV(hu:X.A.units+64<cLine):dF X (compareOp .NotEq) (BL X.K true):=by
 intro af s U H x y v u Q I rx ry h;let#[d1,d2,f1,f2,r1,r2,l1,l2,q]:=h;let#[a1,a2,a3]:=lay_of l1;let#[b1,b2,b3]:=lay_of l2;let#[as,ra]:=pP I r1 rx a1;let#[bs,rb]:=pP I r2 ry b1;apply SeqAt.compareNe_reads ra rb a2 b2 (by omega) #[.bl _,H,I,rfl,q]
def LO(hu:X.A.units+64<cLine):dF X (compareOp .Eq) (BL X.K false):=by
 intro af s U H x y v u Q I rx ry h;let#[d1,d2,f1,f2,r1,r2,l1,l2,q]:=h;let#[a1,a2,a3]:=lay_of l1;let#[b1,b2,b3]:=lay_of l2;let#[as,ra]:=pP I r1 rx a1;let#[bs,rb]:=pP I r2 ry b1;apply SeqAt.compareEq_reads ra rb a2 b2 (by omega) #[.bl _,H,I,rfl,q]
def Ng{K:Fr}:gK K (BL K true) nS:=by
 intro H x y d1 d2 f1 f2 d Q r1 r2 e k;unfold nS at e
 by_cases hc:(dg d1&&dg d2)=true
 .rw[if_pos hc] at e;ext e;let#[c1,c2]:=(aaV _ _).mp hc;apply#[d1,d2,f1,f2,r1,r2,c1,c2,k H _ (aI.refl H) (.bl _)]
 .rw[abo hc] at e;ext e
def Ur{K:Fr}:gK K (BL K false) qf:=by
 intro H x y d1 d2 f1 f2 d Q r1 r2 e k;unfold qf at e;let#[hc,e]:=ci e;ext e;let#[c1,c2]:=(aaV _ _).mp hc;apply#[d1,d2,f1,f2,r1,r2,c1,c2,k H _ (aI.refl H) (.bl _)]
def D5(hu:X.A.units+64<cLine)(ha:FP X a fa)(hb:FP X b fb):FT X (.Compare a [.NotEq] [b] pos) (tV (e2 nS fa fb)):=jJ (MV hu) Ng ha hb (jr _)
def NH(hu:X.A.units+64<cLine)(ha:FP X a fa)(hb:FP X b fb):FT X (.Compare a [.Eq] [b] pos) (tV (e2 qf fa fb)):=jJ (LO hu) Ur ha hb (jr _)
def abb(hu:X.A.units+64<cLine)(ha:FP X a fa)(hb:FP X b fb):FP X (.Compare a [.NotEq] [b] pos) (e2 nS fa fb):=qN (MV hu) Ng ha hb (jr _)
def T5(hu:X.A.units+64<cLine)(ha:FP X a fa)(hb:FP X b fb):FP X (.Compare a [.Eq] [b] pos) (e2 qf fa fb):=qN (LO hu) Ur ha hb (jr _)
def M1{d:D}(h:dg d=true):qf d d=some (.bl true):=by unfold qf;rw[h,ahl,if_pos rfl,SeqAt.eqv_refl _ (lay_of h).2.1]
theorem B6:∀r:List Int,PyData.canLayAll0 (r.map PyData.int)=true
 |[]=>rfl
 |i::r=>by rw[aaB];simp only[PyData.canLayAll0,PyData.canLay0,B6 r,ahl]
theorem Te:∀rs:List (List Int),PyData.canLayAll0 (rs.map jZ)=true/\PyData.depthAll (rs.map jZ)<=1
 |[]=>#[rfl,by simp[PyData.depthAll]]
 |r::rs=>by
  let#[h1,h2]:=Te rs;rw[aaB];refine#[by simp only[PyData.canLayAll0,jZ,PyData.canLay0,h1,Bool.and_true];apply B6 r,?_];simp only[PyData.depthAll,jZ,PyData.depth,depthAll_ints r];omega
def WV(rs:List (List Int)):dg (.lst (g9 rs))=true:=by
 let#[h1,h2]:=Te rs;have e:py (.lst (g9 rs))=.list (rs.map jZ):=by unfold py;rw[GJ]
 unfold dg;rw[e];have a1:gb (.lst (g9 rs))=true:=by unfold gb;apply R7 rs
 have a2:(PyData.list (rs.map jZ)).canLay0=true:=by simp only[PyData.canLay0];apply h1
 have a3:(PyData.list (rs.map jZ)).depth<=40:=by simp only[PyData.depth];omega
 rw[a1,a2,aaC a3];rfl
end L2.Ev
namespace L2.Ev
open PySem PySem.Spec PyProof.Rows
def aac:yi "tuple":=by
 intro K t m;simp only[aaO,acL,aiE] at m;rcases m with rfl|rfl|rfl|rfl|rfl|rfl<;>rfl
def pM(t:TF)(fa fb:EF):EF:=λY=>match t Y with
 |some true=>fa Y
 |some false=>fb Y
 |none=>none
def SJ(hc:FT X c tc)(ha:FP X a fa)(hb:FP X b fb):FP X (.IfExp c a b pos) (pM tc fa fb):=by
 let#[t,p,q]:=hc;let#[t1,p1,q1]:=ha;let#[t2,p2,q2]:=hb;exists 21,aaW p p1 p2;unfold pM at e;cases h:tc Y with
 |none=>rw[h] at e;ext e
 |some y=>
  rw[h] at e;refine q ok h λH1 s1=>?_
  cases y with
  |true=>rw[if_pos rfl];apply q1 (ok.same s1) e λH2 v fp s2 r2 g2=>k H2 v fp (s1.trans s2) r2 (g2.back s1)
  |false=>rw[abo aa2];apply q2 (ok.same s1) e λH2 v fp s2 r2 g2=>k H2 v fp (s1.trans s2) r2 (g2.back s1)
def QS(h:tc Y=some true):pM tc fa fb Y=fa Y:=by unfold pM;rw[h]
def Ni(h:tc Y=some false):pM tc fa fb Y=fb Y:=by unfold pM;rw[h]
def GK(_ j:Int):Bool:=decide (0<j)&&decide (j<1073741824)
def cPw(i j:Int):Bool:=decide (0<=j)&&decide (j<=1000000)&&decide (i.natAbs<2 ^ 64)
def oDiv:=uK GK λi j=>i / j
def ON:=uK cPw λi j=>i ^ j.toNat
def Wu(ha:FP X a fa)(hb:FP X b fb):FP X (.BinOp a .FloorDiv b pos) (e2 oDiv fa fb):=vH ZR (De λi j h=>by
 let#[h1,h2]:=(aaV _ _).mp h;apply#[aaK h1,aaK h2]) ha hb
def YV(ha:FP X a fa)(hb:FP X b fb):FP X (.BinOp a .Pow b pos) (e2 ON fa fb):=vH ahh (De λi j h=>by
 let#[h,h3]:=(aaV _ _).mp h;let#[h1,h2]:=(aaV _ _).mp h;apply#[aaK h1,aaK h2,aaK h3]) ha hb
def Zh(h:0<n)(h2:n<1073741824):oDiv (.int m) (.int n)=some (.int (m / n)):=by
 show(if GK m n=true then some (D.int (m / n)) else none)=_;rw[if_pos (by unfold GK;rw[aaC h,aaC h2];rfl)]
def ju(neg:Bool):D->D->Option D
 |.int i,.lst ds=>(eF ds).map λns=>.bl (if neg=true then !(ns.any (· == i)) else ns.any (· == i))
 |_,_=>none
def ahx(i:Int)(ns:List Int):uA (.int i) (ns.map V.int)=ns.any (· == i):=by
 unfold uA;rw[aiq];rfl
def ah4(ns:List Int):(ns.map V.int).all nU=true:=by
 rw[aiM];apply aei.mpr λ_ _=>rfl
def Jv{K:Fr}:gK K (AB K neg) (ju neg):=by
 intro H x y d1 d2 f1 f2 d Q r1 r2 e k;cases d1 with
 |int i=>
  cases d2 with
  |lst ds=>
   have e:((eF ds).map λns=>D.bl (if neg=true then !(ns.any (· == i)) else ns.any (· == i)))=some d:=e;exists h,eF ds,ns,e;ext e;let#[p,xs,f,rfl,hq,rs,_]:=r2.d_;ext r1;have ex:=tR rs h;subst ex;refine#[p,_,rfl,.inl hq,rfl,ah4 ns,?_];rw[ahx];apply k H _ (aI.refl H) (.bl _)
  |_=>ext e
 |_=>ext e
def C7(ha:FP X a fa)(hb:FP X b fb)(hm:behindInMarks .In b=false:=by rfl):FT X (.Compare a [.In] [b] pos) (tV (e2 (ju false) fa fb)):=jJ Ua Jv ha hb hm
def Sy(ha:FP X a fa)(hb:FP X b fb)(hm:behindInMarks .NotIn b=false:=by rfl):FT X (.Compare a [.NotIn] [b] pos) (tV (e2 (ju true) fa fb)):=jJ Jt Jv ha hb hm
def NF(ha:FP X a fa)(hb:FP X b fb)(hm:behindInMarks .NotIn b=false:=by rfl):FP X (.Compare a [.NotIn] [b] pos) (e2 (ju true) fa fb):=qN Jt Jv ha hb hm
def yK{ns:List Int}:ju neg (.int i) (.lst (ns.map D.int))=some (.bl (if neg=true then !(ns.any (· == i)) else ns.any (· == i))):=by
 show((eF (ns.map D.int)).map _)=_;rw[sU];rfl
def mH(i:Nat)(fv:EF):SF:=λY=>match fv Y,Y[i]? with
 |some (d,_),some (some (.lst ds,.own))=>if(aH d&&aP ds&&decide (ds.length<sizeLine))=true then some (.nx (cP Y i (.lst (ds++[d])))) else none
 |_,_=>none
def Gn(i:Nat)(hv:FP X a fv)(va:VA X i x:=by walk_at "va")(hs:starEach [a] X.env=[(false,eval a X.env)]:=by rfl)
  (kQ:attributeBase (.Name x p1) "append" X.env (eval (.Name x p1) X.env)=eval (.Name x p1) X.env:=by rfl)
  (kR:((backTo p3 (starEach [a] X.env)).all (λx=>!x.1)&&(backToKw p3 (keywordEach [] X.env)).all (λx=>x.1.isSome)&&decide ([a].length+([]:List Keyword).length+(if([]:List Keyword).isEmpty then 0 else 1)<30))=true:=by rfl)
  (kT:(p2.endLine==p3.line)=true:=by rfl) (jQ:swapsWith (.Call (.Attribute (.Name x p1) "append" p2) [a] [] p3) none pos.line X.env=pure false:=by rfl) :
  fL X (.Expr (.Call (.Attribute (.Name x p1) "append" p2) [a] [] p3) pos) (mH i fv):=by
 let#[tv,mJ,sv]:=hv;exists 25,xB (wo PySem.F.plainAttrs_list PySem.F.slot_list_append PySem.F.type_list_append Hs va.pe (cV mJ fq hs) kQ kR kT hs rfl) jQ;unfold mH at e
 split at e
 .rename_i d td ds g1 g2;let#[hc,e]:=ci e;ext e;let#[c1,c3]:=(aaV _ _).mp hc;let#[c1,c2]:=(aaV _ _).mp c1;let#[xv,fp,cZ,r,zz]:=ok.sl i _ _ g2;refine#[xv,cZ,?_];let#[l,xs,f,rfl,hq,_,_]:=r.d_;refine#[.inl #[rfl,_,hq],?_];refine sv ok g1 λH1 v W_ s1 rv _=>?_
  have r':=r.same s1;have cg:=ok.same s1;generalize hw:(V.ref l)=w at r' cZ;cases r' with
  | @lst a' ys _ f' h rs=>
   ext hw;have hn:=rs.aH c2;subst hn;have EX:=rv.aH c1;subst EX;refine#[_,ys,v,rfl,rfl,h,by rw[<- rs.length];apply aaK c3,?_];have im:bh H1 (upd H1 l (.lst (ys++[v]))):=bh.upd h rfl;refine q z U _ (Ok.Ew cg g2 cZ zz aah h rfl (.lst bX ?_)) (.refl _ _);apply aE.append (rs.frame (λa m=>nomatch m) im) (aE.cons (rv.frame (λa m=>nomatch m) im) .nil)
 .cases e
def J5(h1:fv Y=some (.int n,t1))(h2:Y[i]? = some (some (.lst (ns.map D.int),.own)))(hl:ns.length<sizeLine):
  mH i fv Y=some (.nx (cP Y i (.lst ((ns++[n]).map D.int)))):=by
 unfold mH;rw[h1,h2];dsimp only;have VM:∀ns:List Int,aP (ns.map D.int)=true:=λns=>by
  induction ns with
  |nil=>rfl
  |cons n r ih=>rw[aaB];unfold aP;rw[ih];rfl
 rw[if_pos (by rw[VM,List.length_map,aaC hl];rfl),aea];rfl
def cutD(ds:List D)(lo hi:Option Int):List D:=(ds.drop (HT.g8 ds.length 0 lo)).take (HT.g8 ds.length ds.length hi-HT.g8 ds.length 0 lo)
def l_(lo hi:Option Int):D->Option D
 |.lst ds=>if aP ds=true then some (.lst (cutD ds lo hi)) else none
 |.dH ds=>if aP ds=true then some (.lst (cutD ds lo hi)) else none
 |_=>none
def aE.Bg{K:Fr}:∀{ds} {xs} (n),aE K H ds xs []->aE K H (ds.drop n) (xs.drop n) []
 |ds,xs,0,r=>r
 |[],_,n+1,r=>by ext r;apply .nil
 |d::ds,xs,n+1,r=>by
  generalize hf:([]:List Addr)=fp at r;cases r with
  | @cons _ _ _ _ f1 f2 r1 r2=>
   let#[z1,z2]:=ag4.mp hf.symm;subst z1 z2;apply aE.Bg n r2
def aE.BR{K:Fr}:∀{ds} {xs} (n),aE K H ds xs []->aE K H (ds.take n) (xs.take n) []
 |ds,xs,0,r=>.nil
 |[],_,n+1,r=>by ext r;apply .nil
 |d::ds,xs,n+1,r=>by
  generalize hf:([]:List Addr)=fp at r;cases r with
  | @cons _ _ _ _ f1 f2 r1 r2=>
   let#[z1,z2]:=ag4.mp hf.symm;subst z1 z2;apply aE.cons r1 (aE.BR n r2)
def Ah(X:Cx)(e:Option Expr)(v:Option Int):Prop:=∃t,PO X e t/\∀U H Q,Q v H->t U H Q
def Of:Ah X none none:=#[_,HN,λ_ _ _ q=>q]
def AH{j p}:Ah X (some (.Constant (.int i) j p)) (some i):=#[_,JT LA,λ_ _ _ q=>#[i,rfl,q]]
def JK{lo hi:Option Expr}(hl:Ah X lo l)(hh:Ah X hi h)(ha:FP X a fa):FP X (.Subscript a (.Slice lo hi none p2) pos) (e1 (l_ l h) fa):=by
 let#[t,p,q]:=ha;let#[tl,pl,ql]:=hl;let#[th,ph,qh]:=hh;exists 21,E4 Js p pl ph;let#[d1,t1,g1,g2,rfl]:=ng e;refine q ok g1 λH1 x f1 s1 r1 _=>?_
 refine ql U H1 _ (qh U H1 _ ?_);have fin:∀{ds} {xs} {f} {w},aE X.K H1 ds xs f->bY X.K H1 w xs->(if aP ds=true then some (D.lst (cutD ds l h)) else none)=some d->Uq X.K (.ref w) l h H1 Q:=λ{ds xs f w} rs hq e=>by
  let#[hi,e]:=ci e;ext e;have hn:=rs.aH hi;subst hn;refine#[w,xs,rfl,hq,λp hp=>?_];have s2:aI H1 (upd H1 p (.lst (lN xs l h))):=λb o e=>by rw[aN (cX e hp)];apply e
  have rr:aE X.K H1 (cutD ds l h) (lN xs l h) []:=by
   unfold cutD lN;rw[rs.length];apply aE.BR _ (aE.Bg _ rs)
  refine k _ _ [p] (s1.trans s2) (.lst bX (rr.same s2)) #[ab6.mpr #[(λm=>by ext m),ac6],λa m=>?_];cases aav.mp m;apply s1.free hp
 cases d1 with
 |lst ds=>
  let#[w,xs,f,rfl,hq,rs,_]:=r1.d_;apply fin rs hq g2
 |dH ds=>
  let#[w,xs,rfl,hq,rs]:=r1.qQ;apply fin rs hq g2
 |_=>ext g2
end L2.Ev
namespace L2
open PySem PySem.Spec PyProof.Rows
def Inv.acB{ch:List Addr}{o:HO}(I:Inv X af U H s)(hf:∀b∈ch,iZ X af H b)(k:∀b o,b∉ch->s.heap.get? b=some o->h'.get? b=some o)
  (hT:s.heap.objs.size<=T) (new:dJ X.prog X.w (upd H T o) h' T o):Inv X af U (upd H T o) { s with heap:=h',toks:=t' }:=by
 have nT:=I.aG.fresh hT;have mC:∀b u,H b=some u->b∉ch:=λb u e m=>by rw[(hf b m).1] at e;ext e
 refine I.step (λb m=>#[(hf b m).2.2.2.1,(hf b m).2.1,(hf b m).2.2.2.2.1,(hf b m).2.2.2.2.2]) (λb o _ _ m e _=>k b o m e) (λb o _ _ m e _=>#[o.slots,k b o m e])
  (λb o _ e n=>by rw[aN (acV (ac9 (abh e) hT))];apply n) (λb o m e=>#[o,k b o m e]) (λb xs e=>by rw[aN (cX e nT)];apply e) (λb o u e=>by rw[aN (cX e nT)];apply e)
  (λb ps e=>#[([].toArray),by rw[aN (cX e nT),e];simp]) (λm hm=>?_) (λb u e=>?_) I.bare
 .let#[o,es,ep,ho,r]:=hm;apply#[o,es,ep,k _ o (λm=>(hf _ m).2.1 rfl) ho,r]
 .by_cases hb:b=T
  .subst hb;rw[bX] at e;ext e;apply new
  .rw[aN hb] at e;refine(I.aG b u e).gH (λc v hc q=>k c v ?_ q) (λc q=>by rw[aN (cX q nT)];apply q) λc xs q=>by rw[aN (cX q nT)];apply q
   rcases hc with z|z
   .rw[z];apply mC b u e
   .exact mC c _ z
def Inv.RW{ch:List Addr}(I:Inv X af U H s)(hf:∀b∈ch,iZ X af H b)(k:∀b o,b∉ch->s.heap.get? b=some o->h'.get? b=some o):Inv X af U H { s with heap:=h',toks:=t' }:=by
 have mC:∀b u,H b=some u->b∉ch:=λb u e m=>by rw[(hf b m).1] at e;ext e
 refine I.step (λb m=>#[(hf b m).2.2.2.1,(hf b m).2.1,(hf b m).2.2.2.2.1,(hf b m).2.2.2.2.2]) (λb o _ _ m e _=>k b o m e) (λb o _ _ m e _=>#[o.slots,k b o m e])
  (λb o _ e n=>n) (λb o m e=>#[o,k b o m e]) (λb xs e=>e) (λb o u e=>e) (λb ps e=>#[([].toArray),by rw[e];simp]) (λm hm=>?_) (λb u e=>?_) I.bare
 .let#[o,es,ep,ho,r]:=hm;apply#[o,es,ep,k _ o (λm=>(hf _ m).2.1 rfl) ho,r]
 .refine(I.aG b u e).gH (λc v hc q=>k c v ?_ q) (λc q=>q) λc xs q=>q
  rcases hc with z|z
  .rw[z];apply mC b u e
  .exact mC c _ z
def Gm(K:Fr)(l1 l2:Addr):It:=
  #[λi H=>∃xs ys x y,bY K H l1 xs/\bY K H l2 ys/\xs[i]? = some x/\ys[i]? = some y,
   λi H v H'=>∃T a b,H T=none/\v=.ref T/\H'=upd H T (.tup [a,b])/\(∀xs,bY K H l1 xs->xs[i]? = some a)/\∀ys,bY K H l2 ys->ys[i]? = some b,
   λi H=>∃xs ys,bY K H l1 xs/\bY K H l2 ys/\(xs.length<=i\/ys.length<=i),false]
def afn(z TI TO i1 i2 l1 l2:Addr)(i:Nat)(h:Heap):Prop:=IsZip h z TI TO .none/\IsPair h TI (.ref i1) (.ref i2)/\(∃a b,IsPair h TO a b)/\h.IsListIter i1 l1 i/\h.IsListIter i2 l2 i
def aeF{K:Fr}{x1}{z TI TO i1 i2 l1 l2:Addr}(D:ZipApart z TI TO i1 i2 l1 l2):
  Turn P w K (.Tuple elts x1 pos) (Gm K l1 l2) [z,TI,TO,i1,i2] z (afn z TI TO i1 i2 l1 l2) where
 mem:=by simp
 obj:=λi h st b hb=>by
  let#[s1,s2,#[a,b',s3],#[o4,e4,c4,d4],#[o5,e5,c5,d5]]:=st;simp only[aaO,acL,aiE] at hb;rcases hb with rfl|rfl|rfl|rfl|rfl
  .exact#[_,s1,λv q=>by ext q]
  .exact#[_,s2,λv q=>by ext q]
  .exact#[_,s3,λv q=>by ext q]
  .exact#[o4,e4,λv q=>by rw[d4] at q;ext q]
  .exact#[o5,e5,λv q=>by rw[d5] at q;ext q]
 keep:=λi h h' st k=>by
  let#[s1,s2,#[a,b',s3],s4,s5]:=st;apply#[k _ (by simp) _ s1,k _ (by simp) _ s2,#[a,b',k _ (by simp) _ s3],s4.at λo e=>k _ (by simp) o e,s5.at λo e=>k _ (by simp) o e]
 item:=by
  intro X hP hw hK hc i af s U H E I hf st hg;subst hP hw hK;let#[s1,s2,#[a,b',s3],s4,s5]:=st;let#[xs,ys,x,y,q1,q2,e1,e2]:=hg;let#[us,v1,p1,z1]:=I.list q1;let#[ws,v2,p2,z2]:=I.list q2;let#[u,hu,ru]:=v1.get e1;let#[t,ht,rt]:=v2.get e2;refine wpAny_pyNext_zip_item D s1 s2 s3 s4 s5 p1.isList p2.isList (by simpa using hu) (by simpa using ht) λh' a1 a2 a3 a4 a5 a6 a7=>#[_,rfl,?_]
  refine wpAny_letOwnedTupleGo_zip a1 λwK b1 b2=>?_
  have lz:=abh s1;have nz:=ahU lz;have T2:=b2.extBut _ _ nz a5;have nT:=I.aG.fresh (abD _);have I1:Inv X af U (upd H s.heap.objs.size (.tup [x,y])) { s with heap:=wK }:=I.acB (ch:=[z,TO,i1,i2]) (λb m=>hf b (by
    simp only[aaO,acL,aiE] at m ⊢;rcases m with rfl|rfl|rfl|rfl<;>simp)) (λb o m e=>by
    simp only[aaO,acL,aiE,not_or] at m;apply b2.extBut _ _ m.1 (a7 b o m.1 m.2.1 m.2.2.1 m.2.2.2 e)) (abD _) (show dJ X.prog X.w _ wK _ (.tup [x,y]) from#[show 2<=sizeLine by unfold sizeLine;lia,[u,t],.cons ru (.cons rt .nil),#[_,T2,rfl,rfl,_,rfl]])
  refine#[.ref s.heap.objs.size,_,I1,rfl,#[_,x,y,nT,rfl,rfl,λWR h=>by rw[I.D9 h q1];apply e1,λys' h=>by rw[I.D9 h q2];apply e2],?_,λb m=>?_]
  .have up:∀c o,c≠z->h'.get? c=some o->wK.get? c=some o:=λc o n e=>b2.extBut _ _ n e
   apply#[b1,up _ _ D.TIz (a7 TI _ D.TIz D.TITO D.TIi1 D.TIi2 s2),#[u,t,up _ _ D.TOz a2],a3.at λo e=>up _ o D.i1z e,a4.at λo e=>up _ o D.i2z e]
  .rw[aN]
   .exact(hf b m).1
   .rintro rfl
    let#[o4,e4,_]:=id s4;let#[o5,e5,_]:=id s5;simp only[aaO,acL,aiE] at m;rcases m with m|m|m|m|m
    .exact nz m
    .exact absurd (abh s2) (by rw[<- m];apply afO _)
    .exact absurd (abh s3) (by rw[<- m];apply afO _)
    .exact absurd (abh e4) (by rw[<- m];apply afO _)
    .exact absurd (abh e5) (by rw[<- m];apply afO _)
 done:=by
  intro X hP hw hK hc i af s U H E I hf st hg;subst hP hw hK;let#[s1,s2,#[a,b',s3],s4,s5]:=st;let#[xs,ys,q1,q2,e]:=hg;let#[us,v1,p1,z1]:=I.list q1;let#[ws,v2,p2,z2]:=I.list q2;have l1:=v1.length;have l2:=v2.length;refine wpAny_pyNext_zip_end (I.ok.hd (hc.resolve_right λz=>aa2 z)) D s1 s2 s3 s4 s5 p1.isList p2.isList (e.imp (λe=>by simp;lia) λe=>by simp;lia) λh' k=>#[rfl,I.RW (ch:=[z,TO,i1,i2]) (λb m=>hf b (by
    simp only[aaO,acL,aiE] at m ⊢;rcases m with rfl|rfl|rfl|rfl<;>simp)) λb o m e=>?_]
  simp only[aaO,acL,aiE,not_or] at m;apply k b o m.1 m.2.1 m.2.2.1 m.2.2.2 e
 self:=λ_ _ _ _ _ st h=>wpAny_pyIter_zip st.1 h
def acd(K:Fr)(ta:TA):TI:=λU H R=>ta U H λvs H1=>∃l1 l2 xs ys,vs=[.ref l1,.ref l2]/\bY K H1 l1 xs/\bY K H1 l2 ys/\R (Gm K l1 l2) H1
def agH{x1}(hg:Gl X "zip")(hm:X.mg "zip"=none)(ha:PA X [a,b] ta)(hs:starEach [a,b] X.env=[(false,eval a X.env),(false,eval b X.env)]:=by rfl)(ck:starEach [b] X.env=[(false,eval b X.env)]:=by rfl):
  PI X (.Tuple elts x1 tp) (.Call (.Name "zip" p) [a,b] [] pos) (acd X.K ta):=by
 intro af s U H R I h;refine agj (pN I hg hm boot_zip (agP (ha.n I h λus s1 vs H1 I1 r1 q1=>?_) (by rw[hs,ck]) (by rw[ck];rfl)));let#[l1,l2,xs,ys,rfl,h1,h2,q]:=q1;let#[u,v,rfl,ru,rv]:=vals2 r1;ext ru;ext rv;let#[us,v1,p1,z1]:=I1.list h1;let#[ws,v2,p2,z2]:=I1.list h2;have b1:l1<s1.heap.objs.size:=let#[o,n,e,_]:=p1;abh e
 have b2:=let#[o,n,e,_]:=p2;abh e
 refine call_zip_2 p1.isList p2.isList λh' g1 g2 g3 g4 g5 g6 k=>?_
 refine wpAny_pyIter_zip g1 ?_;refine#[_,_,_,_,H1,rfl,I1.kept k,aeF (zipApart_new b1 b2),#[g1,g2,#[_,_,g3],g4,g5],λc hc=>?_,q];have up:∀j,iZ X af H1 (s1.heap.objs.size+j):=λj=>I1.sD (Nat.le_add_right _ _) (I1.aG.fresh (Nat.le_add_right _ _))
 simp only[aaO,acL,aiE] at hc;rcases hc with rfl|rfl|rfl|rfl|rfl
 .exact up 4
 .exact up 2
 .exact up 3
 .exact up 0
 .exact up 1
end L2
namespace L2.Ev
open PySem PySem.Spec PyProof.Rows
def qG(fa fb:EF):IF:=λY=>match fa Y,fb Y with
 |some (.lst ds,t1),some (.lst es,t2)=>if(aP ds&&aP es)=true then some ((ds.zip es).map λp=>.tup [p.1,p.2],j4 [(.lst ds,t1),(.lst es,t2)]) else none
 |_,_=>none
def aE.M_{K:Fr}{i:Nat}(r:aE K H ds vs [])(e:ds[i]? = some d):∃v,vs[i]? = some v/\Rep K H d v []:=by
 let#[v,f,e1,r1,s]:=r.get e;have:f=[]:=agm.mpr λa m=>by have:=s a m;ext this
 subst this;apply#[v,e1,r1]
def X5{K:Fr}{f1 f2:List Addr}(c1:aP ds=true)(c2:aP es=true):
  ud K (Gm K l1 l2) ((ds.zip es).map λp=>.tup [p.1,p.2]) [#[.lst ds,.ref l1,f1],#[.lst es,.ref l2,f2]]:=by
 intro H i hh;let#[p1,xs,g1,e1,q1,r1,_]:=(hh _ aah).d_;let#[p2,ys,g2,e2,q2,r2,_]:=(hh _ (aab _ aah)).d_;ext e1;ext e2;have n1:=r1.aH c1;have n2:=r2.aH c2;subst n1 n2;refine#[λd hd=>?_,λhl=>?_]
 .rw[adm] at hd;cases hz:(ds.zip es)[i]? with
  |none=>rw[hz] at hd;ext hd
  |some pr=>
   rw[hz] at hd;ext hd;let#[k1,k2]:=List.getElem?_zip_eq_some.mp hz;let#[x,hx,rx]:=r1.M_ k1;let#[y,hy,ry]:=r2.M_ k2;refine#[#[xs,ys,x,y,q1,q2,hx,hy],λv H1 hv=>?_];let#[T,a,b,hT,rfl,rfl,ha,hb]:=hv;have ea:=ha xs q1;have eb:=hb ys q2;rw[hx] at ea;rw[hy] at eb;ext ea;ext eb;have s2:aI H (upd H T (.tup [x,y])):=λb o e=>by rw[aN (cX e hT)];apply e
   apply#[s2,[],.tup (cE.of bX) (aE.cons (rx.same s2) (aE.cons (ry.same s2) .nil)),λa m=>nomatch m]
 .rw[List.length_map,List.length_zip,r1.length,r2.length] at hl;apply#[xs,ys,q1,q2,by lia]
def SO{x1}(hm:X.mg "zip"=none)(ha:FP X a fa)(hb:FP X b fb)(hg:Gl X "zip":=by rfl)(hs:starEach [a,b] X.env=[(false,eval a X.env),(false,eval b X.env)]:=by rfl)(ck:starEach [b] X.env=[(false,eval b X.env)]:=by rfl):
  FI X (.Tuple elts x1 tp) (.Call (.Name "zip" p) [a,b] [] pos) (qG fa fb):=by
 let#[t,pa,hlen,q]:=ai ha (ai hb aq ck) (by rw[hs,ck]);exists 24,agH hg hm pa hs ck;unfold qG at e
 split at e
 .rename_i d1 t1 d2 t2 h1 h2;let#[hc,e]:=ci e;ext e;let#[c1,c2]:=(aaV _ _).mp hc;refine q ok (by unfold ao aA;rw[h1,h2]) λH1 vs fp s1 r g=>?_
  cases r with
  | @cons _ v1 _ _ f1 _ r1 r=>
   cases r with
   | @cons _ v2 _ _ f2 _ r2 r=>
    ext r;let#[l1,xs,g1,rfl,q1,_,_]:=r1.d_;let#[l2,ys,g2,rfl,q2,_,_]:=r2.d_;refine#[l1,l2,xs,ys,rfl,q1,q2,k H1 _ [#[.lst d1,.ref l1,f1],#[.lst d2,.ref l2,f2]] s1 (λh m=>?_) (X5 c1 c2)];have go:=g.over ok;rcases aaO.mp m with rfl|m
    .exact#[r1,λa ma=>go a (aa4 _ ma)]
    .cases aav.mp m;apply#[r2,λa ma=>go a (aaS _ (aa4 _ ma))]
 .cases e
end L2.Ev
namespace L2
open PySem PySem.Spec PyProof.Rows
theorem N5:∀{bs:List Bool} {us},aR (bs.map V.bl) us->us=bs.map Value.bool
 |[],_,r=>by rw[aiY] at r;ext r;rfl
 |b::bs,_,r=>by
  rw[aaB] at r;cases r with
  |cons r1 r2=>ext r1;rw[N5 r2];rfl
def range_all(bs:List Bool):(List.range bs.length).all (λj=>bs.getD j true)=bs.all id:=by
 induction bs with
 |nil=>rfl
 |cons b r ih=>
  rw[acF,List.range_succ_eq_map,aiP,aiM,aiP,<- ih];rfl
def aeG(hc:X.calm=true):gI X (.builtin "all") (λxs H Q=>∃(p:Addr) (bs:List Bool),xs=[V.ref p]/\bY X.K H p (bs.map V.bl)/\Q (.bl (bs.all id)) H):=by
 intro af s U H xs us Q I r h;let#[p,bs,rfl,hq,q]:=h;let#[u,rfl,ru]:=vals1 r;ext ru;let#[ay,v1,pl,hz]:=I.list hq;have ei:=N5 v1;subst ei;have lp:=let#[o,n,e,_]:=pl;abh e
 have hh:X.A.in1.handled=none:=I.ok.hd hc;refine call_all_walk (wpAny_pyIter_list pl.isList ?_);refine#[s.heap.objs.size,_,_,_,_,_,λj=>bs.getD j true,rfl,Walks.list hh s.heap.objs.size p (acV lp) (bs.map Value.bool).toArray,#[#[_,ab4 _ rfl,rfl,rfl],pl.isList.at λo e=>aaA _ e],?_,λh' tk hk=>?_]
 .intro i v s' Q' E' hv hQ;rw[List.getElem?_toArray,adm] at hv;exists e,bs[i]?,b,hv;ext hv;dsimp only at hQ;rw[adA,e] at hQ;apply agh hQ
 .have f:=I.sD (abD s.heap.objs.size) (I.aG.fresh (abD _));have I1:Inv X af U H { s with heap:=s.heap.push { cls:=.type "list_iterator",data:=.fields ([.ref p,.int 0 0].toArray) } }:=I.kept λb o e=>aaA _ e
  rw[abK,List.length_map,range_all];apply#[.bl _,H,I1.RW (λb m=>by rw[aav.mp m];apply f) λb o m e=>hk b o m e,rfl,q]
end L2
namespace L2.Ev
open PySem PySem.Spec PyProof.Rows
def nQ:List D->Option (List Bool)
 |[]=>some []
 |.bl b::r=>(nQ r).map (b::·)
 |_=>none
theorem Nm{K:Fr}:∀{ds} {xs} {fp} {bs},aE K H ds xs fp->nQ ds=some bs->xs=bs.map V.bl
 |[],_,_,bs,r,e=>by ext r;ext e;rfl
 |d::ds,_,_,bs,r,e=>by
  cases r with
  |cons h t=>
   ext d<;>try (ext e;done)
   ext h;unfold nQ at e;exists q,nQ ds,r,e;ext e;rw[Nm t q];rfl
def tG:D->Option D
 |.lst ds=>(nQ ds).map λbs=>.bl (bs.all id)
 |_=>none
def YW{K:Fr}:sQ K (λxs H Q=>∃(p:Addr) (bs:List Bool),xs=[V.ref p]/\bY K H p (bs.map V.bl)/\Q (.bl (bs.all id)) H) tG:=by
 intro H x d1 f1 d Q r e k;cases d1 with
 |lst ds=>
  let#[p,xs,f,rfl,hq,rs,_]:=r.d_;have e:(nQ ds).map (λbs=>D.bl (bs.all id))=some d:=e;exists h,nQ ds,bs,e;ext e;have ex:=Nm rs h;subst ex;apply#[p,bs,rfl,hq,k H _ [] (aI.refl H) (.bl _) ac6 λa m=>nomatch m]
 |_=>ext e
def Ca(hc:X.calm=true)(hm:X.mg "all"=none)(ha:FP X a fa)(hg:Gl X "all":=by rfl)(hs:starEach [a] X.env=[(false,eval a X.env)]:=by rfl):FP X (.Call (.Name "all" p) [a] [] pos) (e1 tG fa):=
 fp_1 YW ha λta pa=>o9 (aeG hc) hg hm boot_all (cV pa fq hs) (he:=hs)
abbrev XF:=aU->Option (D×aU)
def YU{P:Program}{w:World}{K:Fr}{mg:Str->Option Value}{base:Heap}{x qual:Str}{st:Stmt}{f:Addr}{fd:FuncData}{N ps:List Str}{k:Nat}(F:iR K x qual st f fd)(S:mY N ps (c8 st)):
  b_ P w K mg base dO (k+1) f fd ps (aX K λ_=>none):=F.ok S (λvs H Q E #[_,_,_,_,e,_]=>nomatch e) λaV A outer s H vs Q E hr #[_,_,_,_,e,_]=>nomatch e
def aae(ha:FP X a fa)(hb:FP X b fb):FP X (.Compare a [.Lt] [b] pos) (e2 oLt fa fb):=qN OT sN ha hb (jr _)
def abz(ha:FP X a fa)(hb:FP X b fb):FP X (.Compare a [.LtE] [b] pos) (e2 oLe fa fb):=qN JD sN ha hb (jr _)
def ahj(ha:FP X a fa)(hb:FP X b fb):FP X (.Compare a [.Is] [b] pos) (e2 jv fa fb):=qN Mc OR ha hb (jr _)
end L2.Ev
namespace L2.Ev
open PySem
theorem fm:∀ns:List Int,aP (ns.map D.int)=true
 |[]=>rfl
 |n::r=>by rw[aaB];unfold aP;rw[fm r];rfl
def zm{as bs:List Int}(h:as.length+bs.length<=PySem.sizeLine):gQ (.lst (as.map D.int)) (.lst (bs.map D.int))=some (.lst ((as++bs).map D.int)):=by
 show(if(aP (as.map D.int)&&aP (bs.map D.int)&&decide ((as.map D.int).length+(bs.map D.int).length<=PySem.sizeLine))=true then some (D.lst (as.map D.int++bs.map D.int)) else none)=_;rw[fm,fm,List.length_map,List.length_map,aaC h,aea];rfl
def adu(h:ns.length<64):m7 (.lst (ns.map D.int))=some (.lst ((e_ ns).map D.int)):=by
 show(match eF (ns.map D.int) with|some ns=>if ns.length<64 then some (D.lst ((e_ ns).map D.int)) else none|none=>none)=_;rw[sU];dsimp only;rw[if_pos h]
def vU{ns:List Int}:vA (.lst (ns.map D.int))=some (.lst (ns.map D.int)):=by show(if aP (ns.map D.int)=true then some (D.lst (ns.map D.int)) else none)=_;rw[if_pos (fm ns)]
def O8{ns:List Int}:vA (.tup (ns.map D.int))=some (.lst (ns.map D.int)):=by show(if aP (ns.map D.int)=true then some (D.lst (ns.map D.int)) else none)=_;rw[if_pos (fm ns)]
def CS{ns:List Int}:BW (.lst (ns.map D.int))=some (.tup (ns.map D.int)):=by show(if aP (ns.map D.int)=true then some (D.tup (ns.map D.int)) else none)=_;rw[if_pos (fm ns)]
open PySem PySem.Spec PyProof.Rows
def aE.look{K:Fr}:∀{es:List (Str×D)}{fs:List (Str×V)} {fp} {f} {d},es.map (·.1)=fs.map (·.1)->aE K H (es.map (·.2)) (fs.map (·.2)) fp->es.lookup f=some d->∃v g,fs.lookup f=some v/\Rep K H d v g/\∀a∈g,a∈fp
 |[],[],_,_,_,_,_,e=>by ext e
 |[],_::_,_,_,_,k,_,_=>by simp at k
 |_::_,[],_,_,_,k,_,_=>by simp at k
 |(x,d0)::es,(y,v0)::fs,fp,f,d,k,r,e=>by
  simp only[aaB,agT] at k;let#[rfl,k]:=k;cases r with
  |cons r1 r2=>
   by_cases hx:(f==x)=true
   .simp only[List.lookup,hx] at e ⊢;ext e;apply#[v0,_,rfl,r1,λa m=>aa4 _ m]
   .have hx:(f==x)=false:=by simpa using hx
    simp only[List.lookup,hx] at e ⊢;let#[v,g,h1,h2,h3]:=aE.look k r2 e;apply#[v,g,h1,h2,λa m=>aaS _ (h3 a m)]
theorem vg:∀{es:List (Str×D)}{fs:List (Str×V)} {f},es.map (·.1)=fs.map (·.1)->es.lookup f=none->fs.lookup f=none
 |[],[],_,_,_=>rfl
 |[],_::_,_,k,_=>by simp at k
 |_::_,[],_,k,_=>by simp at k
 |(x,d0)::es,(y,v0)::fs,f,k,e=>by
  simp only[aaB,agT] at k;let#[rfl,k]:=k
  by_cases hx:(f==x)=true
  .simp only[List.lookup,hx] at e;ext e
  .have hx:(f==x)=false:=by simpa using hx
   simp only[List.lookup,hx] at e ⊢;apply vg k e
structure ClsAt(K:Fr)(cn:Str)(C:Addr):Prop where
 ns:PySem.W.nsIn K mainGlobals cn=some (some (.ref C))
 cl:lD K C
def Rep.nJ{K:Fr}(r:Rep K H (.ins cn es) v fp)(hn:PySem.W.nsIn K mainGlobals cn=some (some (.ref C))):
  ∃a dx fs g,v=.ref a/\fp=a::dx::g/\H a=some (.ins C dx fs)/\H dx=some (.own a)/\es.map (·.1)=fs.map (·.1)/\aE K H (es.map (·.2)) (fs.map (·.2)) g:=by
 cases r with
 | @ins _ a C' dx fs _ g h0 h1 h2 h3 h4=>
  rw[hn] at h0;ext h0;apply#[a,dx,fs,g,rfl,rfl,h1,h2,h3,h4]
def bU(cn f:Str)(fa:EF):EF:=λY=>match fa Y with
 |some (.ins c es,t)=>if c=cn then(es.lookup f).map λd=>(d,lu t) else none
 |_=>none
def di.sub(hz:∀a j,z a=some j->∃o,H a=some o)(h:di z H t f)(s:∀a∈g,a∈f):di z H (lu t) g:=by
 cases t with
 |sh o=>apply λa m j q=>h a (s a m) j q
 |own=>apply λa m j q=>by let#[o,w]:=hz a j q;rw[h.2 a (s a m)] at w;ext w
 |lk=>apply λa m j q=>by let#[o,w]:=hz a j q;rw[h.2 a (s a m)] at w;ext w
def bJ{cn f:Str}{C:Addr}(hC:ClsAt X.K cn C)(na:jd X.K C f)(ha:FP X a fa)(hb:attributeBase a f X.env (eval a X.env)=eval a X.env:=by rfl):FP X (.Attribute a f pos) (bU cn f fa):=by
 let#[t,p,q]:=ha;exists 21,sy p hb;unfold bU at e;exists h,fa Y,w,e,0;let#[d0,t0]:=w;rw[h] at e;ext d0<;>try (ext e;done)
 rename_i c es;dsimp only at e
 by_cases hc:c=cn
 .subst hc;rw[if_pos rfl] at e;exists hl,es.lookup f,d1,e;ext e;refine q ok h λH1 v fp s1 r1 g1=>?_
  let#[b,dx,fs,g,rfl,rfl,h1,h2,h3,h4]:=r1.nJ hC.ns;let#[u,gf,h5,h6,h7]:=aE.look h3 h4 hl;apply#[b,C,dx,fs,u,rfl,h1,hC.cl,na,h5,k H1 u gf s1 h6 (di.sub (λa j e=>(ok.zd a j e).1) g1 λa m=>aab _ (aab _ (h7 a m)))]
 .rw[abo hc] at e;ext e
def bN(cn m:Str)(F:List D->Option D)(fo:EF)(g:AF):EF:=λY=>match fo Y with
 |some (.ins c es,_)=>if c=cn/\es.lookup m=none then(g Y).bind λps=>(F (.ins c es::ps.map (·.1))).map λd=>(d,.own) else none
 |_=>none
section
variable{X:Cx}
def RH(hC:ClsAt X.K cn C)(q:∀{H0} {S} {z} {au} {Y} {U} {H} {Q} {d} {tg},Ok X.K H0 S z au Y U H->fo Y=some (d,tg)->(∀H' v fp,aI H H'->Rep X.K H' d v fp->di z H tg fp->Q v H')->t U H Q)
  (qa:∀{H0} {S} {z} {au} {Y} {U} {H} {Q} {ps},Ok X.K H0 S z au Y U H->g Y=some ps->(∀H' vs fp,aI H H'->aE X.K H' (ps.map (·.1)) vs fp->di z H (j4 ps) fp->Q vs H')->ta U H Q)
  (ok:Ok X.K H0 S z au Y U H) (e0:bN cn m F fo g Y=some (d,tg)) (kk:∀H' v fp,aI H H'->Rep X.K H' d v fp->di z H tg fp->Q v H') :
  BY C m (aX X.K F) [] E0 t ta U H Q:=by
 unfold bN at e0;cases h:fo Y with
 |none=>rw[h] at e0;ext e0
 |some w=>
  let#[d0,t0]:=w;rw[h] at e0;ext d0<;>try (ext e0;done)
  rename_i c BJ;dsimp only at e0
  by_cases hc:c=cn/\BJ.lookup m=none
  .rw[if_pos hc] at e0;let#[rfl,hm]:=hc;cases h2:g Y with
   |none=>rw[h2] at e0;ext e0
   |some qs=>
    rw[h2,adG] at e0;cases h3:F (.ins c BJ::qs.map (·.1)) with
    |none=>rw[h3] at e0;ext e0
    |some d1=>
     rw[h3] at e0;ext e0;refine q ok h λH1 v fp s1 r1 g1=>?_
     let#[b,dx,fs,gf,rfl,rfl,h4,h5,h6,h7]:=r1.nJ hC.ns;refine#[b,dx,fs,rfl,h4,vg h6 hm,?_];refine qa (ok.same s1) h2 λH2 vs nR s2 r2 _=>?_
     rw[acw];apply#[_,_,d,.cons (r1.same s2) r2,h3,λH3 u gZ s3 r3 nd fr=>kk H3 u gZ ((s1.trans s2).trans s3) r3 #[nd,λa m=>s1.free (s2.free (fr a m))]]
  .rw[abo hc] at e0;ext e0
def fS(hC:ClsAt X.K cn C)(hm:mE X.K C m f)(G:b_ X.prog X.w X.K X.mg X.base dO k f fd ps (aX X.K F))(hr:bx k X.A)(hb:Binds X.K fd ps [])(ho:FP X o fo)(ha:FA X (e::es) g)
  (eE:SE X e es pos:=by apply#[rfl,rfl])
  (ht:x6 X o m apos (e::es) pos pl:=by apply rfl):FP X (.Call (.Attribute o m apos) (e::es) [] pos) (bN cn m F fo g):=by
 let#[t,p,q]:=ho;let#[ta,pa,_,qa]:=ha;apply#[_,Bl p hC.cl hm G hr hb .nil oE pa eE.1 eE.2 ht,@λH0 S z au Y U H Q d tg ok e0 kk=>RH hC q qa ok e0 kk]
def eK(hC:ClsAt X.K cn C)(hm:mE X.K C m f)(G:b_ X.prog X.w X.K X.mg X.base dO k f fd ps (aX X.K F))(hr:bx k X.A)(hb:Binds X.K fd ps [])(ho:FP X o fo)
  (ht:x6 X o m apos [] pos pl:=by apply rfl):FP X (.Call (.Attribute o m apos) [] [] pos) (bN cn m F fo aA):=by
 let#[t,p,q]:=ho;let#[ta,pa,_,qa]:=aq (X:=X);refine#[_,T3 p hC.cl hm G hr hb .nil oE ht,@λH0 S z au Y U H Q d tg ok e0 kk=>RH hC q (@λ_ _ _ _ _ _ H _ _ _ e q=>by ext e;apply q H _ _ (aI.refl H) .nil .nil) ok e0 kk]
end
abbrev MF:=D->List D->Option (D×D)
def dQ(K:Fr)(G:MF):Sp:=λvs H Q _=>∃a ws d0 bz ds gm r d1,vs=V.ref a::ws/\Rep K H d0 (.ref a) bz/\bz.Nodup/\aE K H ds ws gm/\(∀b∈gm,b∉bz)/\G d0 ds=some (r,d1)/\
 ∀H' v bV,bh H H'->(∀b o,b∉bz->H b=some o->H' b=some o)->Rep K H' d1 (.ref a) bV->bV.Nodup->(∀b∈bV,b∈bz\/H b=none)->Rep K H' r v []->Q v H'
def apart(i:Nat)(ps:List (D×Tag)):Bool:=match j4 ps with
 |.sh o=>!o.contains i
 |_=>true
def FU{K:Fr}(ok:Ok K H0 S z au Y U H)(h:apart i ps=true)(g:di z H (j4 ps) fp)(zz:vf z i .own bz):∀b∈fp,b∉bz:=by
 intro b m n;unfold apart at h;have zb:=zz.2 b n;cases ht:j4 ps with
 |sh o=>
  rw[ht] at h g;have:=g b m i zb;simp at h;apply h this
 |own=>
  rw[ht] at g;let#[#[o,w],_]:=ok.zd b i zb;rw[g.2 b m] at w;ext w
 |lk=>
  rw[ht] at g;let#[#[o,w],_]:=ok.zd b i zb;rw[g.2 b m] at w;ext w
def xO(i:Nat)(cn m:Str)(G:MF)(g:AF):XF:=λY=>match Y[i]?,g Y with
 |some (some (.ins c es,.own)),some ps=>if c=cn/\es.lookup m=none/\apart i ps=true then(G (.ins c es) (ps.map (·.1))).map λw=>(w.1,cP Y i w.2) else none
 |_,_=>none
def OV(e:xO i cn m G g Y=some (r,Y')):∃es ps d1,Y[i]? = some (some (.ins cn es,.own))/\g Y=some ps/\es.lookup m=none/\apart i ps=true/\G (.ins cn es) (ps.map (·.1))=some (r,d1)/\Y'=cP Y i d1:=by
 unfold xO at e
 split at e
 .rename_i c es ps h1 h2
  by_cases hc:c=cn/\es.lookup m=none/\apart i ps=true
  .rw[if_pos hc] at e;let#[rfl,hm,ha]:=hc;exists h3,G (.ins c es) (ps.map (·.1)),w,e;ext e;apply#[es,ps,w.2,h1,h2,hm,ha,h3,rfl]
  .rw[abo hc] at e;ext e
 .cases e
def FZ(X:Cx)(e:Expr)(f:XF):Prop:=∃t,PE X e t/\∀{H0} {S} {z} {au} {Y} {U} {H} {Q} {d} {Y'},
 Ok X.K H0 S z au Y U H->f Y=some (d,Y')->(∀z' H' v,Ok X.K H0 S z' au Y' U H'->Rep X.K H' d v []->Q v H')->t U H Q
section
variable{X:Cx}
def adv(hC:ClsAt X.K cn C)(hN:X.N[i]? = some x)
  (qa:∀{H0:Hp} {S} {z} {au} {Y} {U} {H} {Q} {ps},Ok X.K H0 S z au Y U H->g Y=some ps->(∀H' vs fp,aI H H'->aE X.K H' (ps.map (·.1)) vs fp->di z H (j4 ps) fp->Q vs H')->ta U H Q)
  (ok:Ok X.K H0 S z au Y U H) (e0:xO i cn m G g Y=some (d,Y')) (kk:∀z' H' v,Ok X.K H0 S z' au Y' U H'->Rep X.K H' d v []->Q v H') :
  BY C m (dQ X.K G) [] E0 (Ke i) ta U H Q:=by
 let#[BJ,qs,d1,h1,h2,hm,xN,hG,rfl]:=OV e0;let#[v,bz,hs,r0,zz]:=ok.sl i _ _ h1;refine#[v,hs,?_];let#[b,dx,fs,gf,rfl,Ea,h4,h5,h6,h7]:=r0.nJ hC.ns;refine#[b,dx,fs,rfl,h4,vg h6 hm,?_];refine qa ok h2 λH2 vs nR s2 r2 g2=>?_
 rw[acw];have tE:=ok.same s2;refine#[b,vs,_,bz,_,nR,d,d1,rfl,r0.same s2,zz.1,r2,FU ok xN g2 zz,hG,λH3 u bV im kp r1 nd fr rr=>?_];let#[z',j9]:=tE.put h1 hs zz im kp r1 nd fr;apply kk z' H3 u j9 rr
def jF(i:Nat)(hC:ClsAt X.K cn C)(hm:mE X.K C m f)(GG:b_ X.prog X.w X.K X.mg X.base dO k f fd ps (dQ X.K G))(hr:bx k X.A)(hb:Binds X.K fd ps [])(va:VA X i x:=by walk_at "va")
  (ht:x6 X (.Name x p1) m apos [] pos pl:=by apply rfl):FZ X (.Call (.Attribute (.Name x p1) m apos) [] [] pos) (xO i cn m G aA):=
 #[_,T3 va.pe hC.cl hm GG hr hb .nil oE ht,@λH0 S z au Y U H Q d Y' ok e0 kk=>adv hC va.N (@λ_ _ _ _ _ _ H _ _ _ e q=>by ext e;apply q H _ _ (aI.refl H) .nil .nil) ok e0 kk]
def sZ(f:XF):SF:=λY=>(f Y).map λw=>.nx w.2
def gJ(he:FZ X e fx)(jQ:swapsWith e none pos.line X.env=pure false:=by rfl):fL X (.Expr e pos) (sZ fx):=by
 let#[t,p,q]:=he;exists 23,xB p jQ;unfold sZ at e;exists h,fx Y,w,e,0;let#[d,bf]:=w;rw[h] at e;ext e;apply q ok h λz' H1 v cg r1=>k z' U H1 cg (.refl _ _)
def wZ(i:Nat)(f:XF):SF:=λY=>match f Y with
 |some (d,Y')=>some (.nx (jt Y' i d .own))
 |none=>none
def HF(i:Nat)(he:FZ X e fx)(hN:X.N.Nodup)(hi:X.N[i]? = some x:=by rfl)(hx:Loc X.env.scope x:=by first|exact Or.inl rfl|exact Or.inr rfl)
  (hs:swapsWith e (some (.Name x pos')) pos.line X.env=pure false:=by rfl) (hf:X.fn x=true\/X.env.scope.names.lookup x=some .local:=by first|exact .inl rfl|exact .inr rfl) (mT:lK X x=false:=by rfl):fL X (.Assign [.Name x pos'] e pos) (wZ i fx):=by
 let#[t,p,q]:=he;exists 23,BX hN hi hx p hs hf;unfold wZ at e;cases h:fx Y with
 |none=>rw[h] at e;ext e
 |some w=>
  let#[d,bf]:=w;rw[h] at e;ext e;refine q ok h λz1 H1 v cg r1=>?_
  apply cg.stored (aI.refl H1) r1 .nil λz' bg=>k z' _ H1 bg (.set hi mT)
end
def nA(cn:Str)(G:MF)(g:AF):EF:=λY=>(g Y).bind λps=>match G (.ins cn []) (ps.map (·.1)) with
 |some (.aC,d)=>some (d,.own)
 |_=>none
section
variable{X:Cx}
def make_core{Q:VK}(hn:PySem.W.nsIn X.K mainGlobals cn=some (some (.ref C)))(r1:aE X.K H1 ds vs fp)(h3:G (.ins cn []) ds=some (.aC,d))(kk:∀H' v fp,aI H1 H'->Rep X.K H' d v fp->fp.Nodup->(∀a∈fp,H1 a=none)->Q v H'):
  ∀x dx,H1 x=none->H1 dx=none->dx≠x->dQ X.K G (.ref x::(vs++[])) (upd (upd H1 dx (.own x)) x (.ins C dx [])) (λv H2=>v=.aC/\Q (.ref x) H2) E0:=by
 intro b dx nb Ag ne;rw[acw];have s2:aI H1 (upd (upd H1 dx (.own b)) b (.ins C dx [])):=λc o e=>by rw[aN (cX e nb),aN (cX e Ag)];apply e
 refine#[b,vs,.ins cn [],[b,dx],_,fp,.aC,d,rfl,.ins hn bX (by rw[aN ne];apply bX) rfl .nil,?_,r1.same s2,λc m n=>?_,h3,λH3 u bV im kp r3 nd fr rr=>?_]
 .exact ab6.mpr #[λm=>ne (aav.mp m).symm,ab6.mpr #[(λm=>nomatch m),ac6]]
 .let#[o,w,_]:=r1.dW c m;rcases aaO.mp n with e|n
  .rw[e,nb] at w;ext w
  .rw[aav.mp n,Ag] at w;ext w
 .cases rr;refine#[rfl,kk H3 _ bV (λc o e=>?_) r3 nd λc m=>?_]
  .refine kp c o (λn=>?_) (s2 c o e);rcases aaO.mp n with q|n
   .rw[q,nb] at e;ext e
   .rw[aav.mp n,Ag] at e;ext e
  .rcases fr c m with q|q
   .rcases aaO.mp q with q|q
    .rw[q];apply nb
    .rw[aav.mp q];apply Ag
   .exact s2.free q
def Sn(hn:PySem.W.nsIn X.K mainGlobals cn=some (some (.ref C)))
  (qa:∀{H0} {S} {z} {au} {Y} {U} {H} {Q} {ps},Ok X.K H0 S z au Y U H->g Y=some ps->(∀H' vs fp,aI H H'->aE X.K H' (ps.map (·.1)) vs fp->di z H (j4 ps) fp->Q vs H')->ta U H Q)
  (ok:Ok X.K H0 S z au Y U H) (e0:nA cn G g Y=some (d,tg)) (kk:∀H' v fp,aI H H'->Rep X.K H' d v fp->di z H tg fp->Q v H') :
  Fj C (dQ X.K G) [] E0 ta U H Q:=by
 unfold nA at e0;exists h2,g Y,qs,e0,0;rw[h2,adG] at e0;exists h3,G (.ins cn []) (qs.map (·.1)),w,e0,0;let#[r,d1]:=w;rw[h3] at e0;ext r<;>try (ext e0;done)
 ext e0;refine qa ok h2 λH1 vs fp s1 r1 _=>?_
 apply make_core hn r1 h3 λH' v fp s2 r3 nd fr=>kk H' v fp (s1.trans s2) r3 #[nd,λa m=>s1.free (fr a m)]
def Rw(hn:PySem.W.nsIn X.K mainGlobals cn=some (some (.ref C)))(M:Mk X.K C f)(GG:b_ X.prog X.w X.K X.mg X.base dO k f fd ps (dQ X.K G))(hr:bx (k+1) X.A)(hm:X.mg x=some (.ref C))(hb:Binds X.K fd ps [])(hg:GD X x:=by apply#[rfl,by decide]):
  FP X (.Call (.Name x p) [] [] pos) (nA cn G aA):=
 #[_,ahw M GG hr hg.1 hm hb .nil oE hg.2,@λH0 S z au Y U H Q d tg ok e0 kk=>Sn hn (@λ_ _ _ _ _ _ H _ _ _ e q=>by ext e;apply q H _ _ (aI.refl H) .nil .nil) ok e0 kk]
def vQ(hn:PySem.W.nsIn X.K mainGlobals cn=some (some (.ref C)))(M:Mk X.K C f)(GG:b_ X.prog X.w X.K X.mg X.base dO k f fd ps (dQ X.K G))(hr:bx (k+1) X.A)(hm:X.mg x=some (.ref C))(hb:Binds X.K fd ps [])(ha:FA X (e::es) g)(hg:GD X x:=by apply#[rfl,by decide])
  (he:SE X e es pos:=by apply#[rfl,rfl]):FP X (.Call (.Name x p) (e::es) [] pos) (nA cn G g):=by
 let#[ta,pa,_,qa]:=ha;apply#[_,WT M GG hr hg.1 hm hb .nil oE pa hg.2 he.1 he.2,@λH0 S z au Y U H Q d tg ok e0 kk=>Sn hn qa ok e0 kk]
end
end L2.Ev
namespace L2
open PySem PySem.Spec PyProof.Rows
abbrev Cx.oq(X:Cx)(xs:List Str):Cx:={ X with fn:=λy=>!(xs.contains y) }
def iQ.oq{st:List Stmt}(hX:X.fn=λ_=>true)(h:iQ (X.oq xs) st t):iQ X st t:=λaf s U H W I hw=>by
 have I':Inv (X.oq xs) af U H s:=#[#[I.ok.mod,I.ok.kind,I.ok.glob,I.ok.blt,I.ok.above,I.ok.inj,I.ok.has,λx c _ e=>I.ok.pY x c (by rw[hX]) e,I.ok.hd,I.ok.frames,I.ok.qF,I.ok.tu,I.ok.bs,I.ok.jn,I.ok.pG,I.ok.o_,I.ok.jf,I.ok.lW],I.os,I.bare,I.base,I.loc,I.cell,I.free,I.gU,I.pin,I.aG,I.len,I.hq]
 have back:∀{aB} {H'} {s'},Inv (X.oq xs) af aB H' s'->Inv X af aB H' s':=λJ=>#[I.ok,J.os,J.bare,J.base,J.loc,J.cell,J.free,J.gU,J.pin,J.aG,J.len,J.hq]
 refine aeo (h af s U H W I' hw) (λf s' q=>?_) λ_ _ z=>z
 cases f with
 |next=>let#[a,b,J,q]:=q;apply#[a,b,back J,q]
 |brk=>let#[a,b,J,q]:=q;apply#[a,b,back J,q]
 |cont=>let#[a,b,J,q]:=q;apply#[a,b,back J,q]
 |ret u=>let#[v,a,b,J,r,q]:=q;apply#[v,a,b,back J,r,q]
end L2
namespace L2.Ev
open PySem PySem.Spec PyProof.Rows
def uz:List Nat->aU->Option (List D)
 |[],_=>some []
 |i::J,Y=>match Y[i]? with
  |some (some (d,Tag.own))=>(uz J Y).map (d::·)
  |_=>none
def xC(J:List Nat)(im:Bool)(X:Cx)(H0:Hp)(S:List Addr)(au:List rJ)(pL:St)(E:Ends):Out->Prop
 |.rt p=>∃r es,p=.tup (r::es)/\∀z Y U H v ig,Ok X.K H0 S z au Y U H->uz J Y=some es->Kp X pL U->Rep X.K H r v ig->ig.Nodup->(∀b∈ig,(H0 b=none\/b∈S)/\∀i∈J,z b≠some i)->(im=true->ig=[])->E.rt v H
 |o=>nO X H0 S au pL E o
def FJ(J:List Nat)(im:Bool)(X:Cx)(st:List Stmt)(f:SF):Prop:=∃t,iQ X st t/\∀{H0} {S} {z} {au} {Y} {U} {H} {E} {o},
 Ok X.K H0 S z au Y U H->f Y=some o->xC J im X H0 S au U E o->t E U H
def sR(J:List Nat)(im:Bool)(X:Cx)(st:Stmt)(f:SF):Prop:=∃t,PS X st t/\∀{H0} {S} {z} {au} {Y} {U} {H} {E} {o},
 Ok X.K H0 S z au Y U H->f Y=some o->xC J im X H0 S au U E o->t E U H
abbrev DP:=FJ [0]
abbrev FM:=FJ [0] true
def xC.of(k:xC J im X H0 S au U E o)(a:Kp X U aB):xC J im X H0 S au aB E o:=by
 cases o with
 |nx Y=>apply nO.of (o:=.nx Y) k a
 |bk Y=>apply nO.of (o:=.bk Y) k a
 |ct Y=>apply nO.of (o:=.ct Y) k a
 |er raw cn Y=>apply vP.of k a
 |rt d=>let#[r,d0,e,k]:=k;apply#[r,d0,e,λz Y s H v ig ok h b=>k z Y s H v ig ok h (a.trans b)]
def lE(f:SF):SF:=λY=>match f Y with
 |some (.nx Y')=>some (.nx Y')
 |some (.bk Y')=>some (.bk Y')
 |some (.ct Y')=>some (.ct Y')
 |some (.er raw cn Y')=>some (.er raw cn Y')
 |_=>none
section
variable{st:Stmt}{rest:List Stmt}
def b8(h:fL X st f):sR J im X st (lE f):=by
 let#[t,p,q]:=h;refine#[t,p,@λH0 S z au Y U H E o ok e k=>?_];unfold lE at e;cases h:f Y with
 |none=>rw[h] at e;ext e
 |some w=>
  rw[h] at e;refine q ok h ?_;ext w<;>first|(ext e;done)|(ext e;apply k)
def jS:FJ J im X [] eO:=#[_,P6,@λ_ _ z _ _ U H _ _ ok e k=>by ext e;apply k z U H ok (.refl _ _)]
def d9(h:sR J im X st f):FJ J im X [st] f:=let#[t,p,q]:=h;#[t,TJ p,q]
def bT(h1:sR J im X st f)(h2:FJ J im X rest g):FJ J im X (st::rest) (cz f g):=by
 let#[t,p,q]:=h1;let#[t',p',q']:=h2;exists 23,zA p p';unfold cz at e;cases h:f Y with
 |none=>rw[h] at e;ext e
 |some w=>
  refine q ok h ?_;rw[h] at e;cases w with
  |nx Y'=>apply λz' aB H' bg a=>q' bg e (k.of a)
  |rt d=>ext e;apply k
  |bk Y'=>ext e;apply k
  |ct Y'=>ext e;apply k
  |er _ _ _=>ext e;apply k
def iF(hc:FT X c tc)(ha:FJ J im X a f)(hb:FJ J im X b g):sR J im X (.If c a b pos) (dN tc f g):=by
 let#[t,p,q]:=hc;let#[t1,p1,q1]:=ha;let#[t2,p2,q2]:=hb;exists 23,ID p p1 p2;unfold dN at e;cases h:tc Y with
 |none=>rw[h] at e;ext e
 |some y=>
  rw[h] at e;refine q ok h λH1 s1=>?_
  cases y with
  |true=>rw[if_pos rfl];apply q1 (ok.same s1) e k
  |false=>rw[abo aa2];apply q2 (ok.same s1) e k
def qd:sR J im X st O6:=#[_,LZ,@λ_ _ _ _ _ _ _ _ _ _ e _=>by ext e]
def wj(f:EF)(J:List Nat:=[0]):SF:=λY=>match f Y,uz J Y with
 |some (r,_),some es=>if aH r=true then some (.rt (.tup (r::es))) else none
 |_,_=>none
def qD(he:FP X e f):sR J im X (.Return (some e) pos) (wj f J):=by
 let#[t,p,q]:=he;exists 23,C8 p;unfold wj at e
 split at e
 .rename_i r tg es h1 h2
  by_cases hi:aH r=true
  .rw[if_pos hi] at e;ext e;let#[r',y_,ee,k]:=k;ext ee;refine q ok h1 λH1 v fp s1 r1 _=>?_
   have hn:=r1.aH hi;subst hn;apply k z Y U H1 v [] (ok.same s1) h2 (.refl _ _) r1 ac6 (λb m=>nomatch m) λ_=>rfl
  .rw[abo hi] at e;ext e
 .cases e
def Af(f:XF)(J:List Nat:=[0]):SF:=λY=>match f Y with
 |some (r,Y')=>(uz J Y').map λes=>.rt (.tup (r::es))
 |none=>none
def aeC(he:FZ X e f):sR J im X (.Return (some e) pos) (Af f J):=by
 let#[t,p,q]:=he;exists 23,C8 p;unfold Af at e;cases h1:f Y with
 |none=>rw[h1] at e;ext e
 |some w=>
  rw[h1] at e;let#[es,h2,rfl]:=adq.mp e;let#[r',y_,ee,k]:=k;ext ee;apply q ok h1 λz' H1 v cg r1=>k z' w.2 U H1 v [] cg h2 (.refl _ _) r1 ac6 (λb m=>nomatch m) λ_=>rfl
end
def BZ(n:Nat)(d0:D)(ds:List D):aU:=some (d0,.own)::(ds.map (λd=>some (d,.sh []))++List.replicate (n-(ds.length+1)) none)
def runM(n N:Nat)(b:SF):MF:=λd0 ds=>if ds.length + 1=n then(match b (BZ N d0 ds) with
 |some (.rt (.tup [r,d1]))=>some (r,d1)
 |some (.nx Y)=>match Y[0]? with
  |some (some (d1,Tag.own))=>some (.aC,d1)
  |_=>none
 |_=>none) else none
def aek(h:uz [0] Y=some [d]):Y[0]? = some (some (d,.own)):=by
 unfold uz at h
 split at h
 .rename_i d' e;ext h;apply e
 .cases h
def IT(im:Bool)(K:Fr)(G:MF):Sp:=λvs H Q _=>∃v0 ws d0 bz ds gm r d1,vs=v0::ws/\Rep K H d0 v0 bz/\bz.Nodup/\aE K H ds ws gm/\(∀b∈gm,b∉bz)/\G d0 ds=some (r,d1)/\
 ∀H' v bV ig,bh H H'->(∀b o,b∉bz->H b=some o->H' b=some o)->Rep K H' d1 v0 bV->bV.Nodup->(∀b∈bV,b∈bz\/H b=none)->Rep K H' r v ig->ig.Nodup->(∀b∈ig,(b∈bz\/H b=none)/\b∉bV)->(im=true->ig=[])->Q v H'
section
variable{K:Fr}
def afh:∀vs H Q E,dQ K G vs H Q E->IT true K G vs H Q E:=by
 rintro _ _ _ _ ⟨a,ws,d0,bz,ds,gm,r,d1,h1,h2,h3,h4,h5,h6,q⟩
 apply#[.ref a,ws,d0,bz,ds,gm,r,d1,h1,h2,h3,h4,h5,h6,λH' v bV ig a1 a2 a3 a4 a5 a6 _ _ e=>q H' v bV a1 a2 a3 a4 a5 (by rw[<- e rfl];apply a6)]
def acr{st:Stmt}(F:iR K x qual st f fd)(S:mY N ps (c8 st))(h0:N[0]? = some x0)
  (hb:∀(aV) (A) (outer) (s) (H) (E),bx k (A.deeper (envOfC qual (c8 st) s.heap.objs.size f aV))->DP im ((g_ dO P w K mg base N qual (c8 st) f aV A outer s H E).i7.oq [x0]) (iz st) b) :
  b_ P w K mg base dO (k+1) f fd ps (IT im K (runM ps.length N.length b)):=by
 have tW:∀{d0} {ds} {r},runM ps.length N.length b d0 ds=some r->ds.length+1=ps.length:=λ{d0 ds r} e=>by
  unfold runM at e
  split at e
  .assumption
  .cases e
 refine F.ok S (λvs H Q E h=>?_) λaV A outer s H vs Q E hr h=>?_<;>let#[v0,ws,d0,bz,ds,gm,r,d1,e0,r0,nd0,rs,dj,e,q]:=h
 .rw[e0,acF,<- rs.length,tW e]
 .let#[t,pt,sd]:=hb aV A outer s H E hr;refine#[t,pt.oq rfl,?_];have Wf:aE K H [d0] [v0] bz:=by have:=aE.cons r0 .nil;rwa [acw] at this
  let#[z,ok]:=Ok.kh Wf nd0 rs dj;rw[e0];have fin:∀{z} {Y} {U} {H'} {v} {ig},Ok K H bz z [] Y U H'->Y[0]? = some (some (d1,.own))->Kp ((g_ dO P w K mg base N qual (c8 st) f aV A outer s H E).i7.oq [x0]) (start N (v0::ws)) U->Rep K H' r v ig->ig.Nodup->(∀b∈ig,(H b=none\/b∈bz)/\z b≠some 0)->(im=true->ig=[])->Q v H':=by
   intro z Y U H' v ig bg h1 kp rr Va N_ hi;let#[u,bV,hs,r1,zz]:=bg.sl 0 d1 .own h1;have hk:=kp 0 _ h0 (by
    show(x0==("self":Str)||(!([x0].contains ("self":Str))&&!(!([x0].contains x0))))=true
    by_cases h:x0=("self":Str)
    .rw[h];rfl
    .simp[agM h])
   rw[hk] at hs;ext hs;have st:∀{c} {o},H c=some o->lJ o=false->H' c=some o:=λ{c o} e' mo=>bg.en c _ e' λm=>by
    let#[o',w,zW]:=r0.dW c m;rw[e'] at w;ext w;rw[mo] at zW;ext zW
   apply q H' v bV ig #[λc xs e'=>st e' rfl,λc o u e'=>st e' rfl,λc φ e'=>st e' rfl] (λc o n e'=>bg.en c o e' n) r1 zz.1 (λc m=>((bg.zd c 0 (zz.2 c m)).2).symm.imp id id) rr Va (λc m=>#[(N_ c m).1.symm.imp id id,λm'=>(N_ c m).2 (zz.2 c m')]) hi
  have hl:=tW e;unfold runM at e;rw[if_pos hl] at e;cases ho:b (BZ N.length d0 ds) with
  |none=>rw[ho] at e;ext e
  |some o=>
   rw[ho] at e;refine sd ok ho ?_;cases o with
   |rt p=>
    have hp:p=.tup [r,d1]:=by
     split at e<;>rename_i hh
     .cases e;ext hh;rfl
     .cases hh
     .cases e
    apply#[r,[d1],hp,λz Y U H' v ig bg h1 kp rr nd fr=>fin bg (aek h1) kp rr nd λb m=>#[(fr b m).1,(fr b m).2 0 aah]]
   |nx Y'=>
    dsimp only at e
    split at e
    .rename_i dd h1;ext e;apply λz U H' bg kp=>fin bg h1 kp .aC ac6 (λb m=>nomatch m) λ_=>rfl
    .cases e
   |bk _=>ext e
   |ct _=>ext e
   |er _ _ _=>ext e
end
def dY(f:Str)(d:D):List (Str×D)->List (Str×D)
 |[]=>[(f,d)]
 |(g,x)::r=>if g=f then(g,d)::r else(g,x)::dY f d r
theorem SK:∀{es} {fs},es.map (·.1)=fs.map (·.1)->(dY f d es).map (·.1)=(fT f v fs).map (·.1)
 |[],[],_=>rfl
 |[],_::_,k=>by simp at k
 |_::_,[],k=>by simp at k
 |(x,d0)::es,(y,v0)::fs,k=>by
  simp only[aaB,agT] at k;let#[rfl,k]:=k;unfold dY fT
  by_cases hx:x=f
  .rw[if_pos hx,if_pos hx,aaB,aaB,k]
  .rw[abo hx,abo hx,aaB,aaB,SK k]
theorem LY:∀{es},es.lookup f=some d0->(dY f d es).map (·.1)=es.map (·.1)
 |[],e=>by ext e
 |(x,d1)::es,e=>by
  unfold dY
  by_cases hx:x=f
  .rw[if_pos hx];rfl
  .have hb:=ad3.mpr λq=>hx q.symm
   simp only[List.lookup,hb] at e;rw[abo hx,aaB,LY e];rfl
section
variable{K:Fr}
def aE.fT(rd:Rep K H d v fd):∀{es} {fs} {g},es.map (·.1)=fs.map (·.1)->aE K H (es.map (·.2)) (fs.map (·.2)) g->
  ∃g',aE K H ((dY f d es).map (·.2)) ((L2.fT f v fs).map (·.2)) g'/\(∀a∈g',a∈g\/a∈fd)/\(g.Nodup->fd.Nodup->(∀a∈fd,a∉g)->g'.Nodup)
 |[],[],_,_,r=>by
  ext r;apply#[fd++[],.cons rd .nil,λa m=>.inr (by simpa using m),λ_ n _=>by simpa using n]
 |[],_::_,_,k,_=>by simp at k
 |_::_,[],_,k,_=>by simp at k
 |(x,d0)::es,(y,v0)::fs,_,k,r=>by
  simp only[aaB,agT] at k;let#[rfl,k]:=k;cases r with
  | @cons _ _ _ _ f1 f2 r1 r2=>
   unfold dY L2.fT
   by_cases hx:x=f
   .rw[if_pos hx,if_pos hx];refine#[fd++f2,.cons rd r2,λa m=>(abC.mp m).elim .inr λm=>.inl (aaS _ m),λn1 n2 n3=>?_];apply adQ.mpr #[n2,(adQ.mp n1).2.1,λa ma b mb e=>n3 a ma (aaS _ (e ▸ mb))]
   .rw[abo hx,abo hx];let#[g',h1,h2,h3]:=aE.fT rd k r2;refine#[f1++g',.cons r1 h1,λa m=>?_,λn1 n2 n3=>?_]
    .rcases abC.mp m with m|m
     .exact .inl (aa4 _ m)
     .exact(h2 a m).imp (aaS _) id
    .let#[a1,a2,a3]:=adQ.mp n1;refine adQ.mpr #[a1,h3 a2 n2 (λa m q=>n3 a m (aaS _ q)),λa ma b mb e=>?_];rcases h2 b mb with q|q
     .exact a3 a ma b q e
     .exact n3 b q (aa4 _ (e ▸ ma))
def aE.place:∀{es}{fs:List (Str×V)} {g},es.map (·.1)=fs.map (·.1)->aE K H (es.map (·.2)) (fs.map (·.2)) g->g.Nodup->es.lookup f=some d0->
  ∃v gf,fs.lookup f=some v/\Rep K H d0 v gf/\gf.Nodup/\(∀a∈gf,a∈g)/\∀(H') (d1) (g1),bh H H'->(∀b o,b∉gf->H b=some o->H' b=some o)->Rep K H' d1 v g1->g1.Nodup->(∀b∈g1,b∈gf\/H b=none)->
   ∃g',aE K H' ((dY f d1 es).map (·.2)) (fs.map (·.2)) g'/\g'.Nodup/\∀b∈g',b∈g\/H b=none
 |[],_,_,_,_,_,e=>by ext e
 |_::_,[],_,k,_,_,_=>by simp at k
 |(x,d)::es,(y,v0)::fs,_,k,r,nd,e=>by
  simp only[aaB,agT] at k;let#[rfl,k]:=k;cases r with
  | @cons _ _ _ _ f1 f2 r1 r2=>
   let#[a1,a2,a3]:=adQ.mp nd
   by_cases hx:x=f
   .subst hx;have hb:=aia x;simp only[List.lookup,hb] at e ⊢;ext e;refine#[v0,f1,rfl,r1,a1,λa m=>aa4 _ m,λH' d1 g1 im kp rr n1 fr=>?_];refine#[g1++f2,?_,adQ.mpr #[n1,a2,λa ma b mb e=>?_],λb m=>?_]
    .unfold dY;rw[if_pos rfl];refine .cons rr (r2.frame (λa m=>?_) im);let#[o,w,_]:=r2.dW a m;rw[kp a o (λq=>a3 a q a m rfl) w,w]
    .subst e;let#[o,w,_]:=r2.dW a mb;rcases fr a ma with q|q
     .exact a3 a q a mb rfl
     .rw[q] at w;ext w
    .rcases abC.mp m with m|m
     .exact(fr b m).imp (aa4 _) id
     .exact .inl (aaS _ m)
   .have hb:=ad3.mpr λq=>hx q.symm
    simp only[List.lookup,hb] at e ⊢;let#[v,gf,h1,h2,h3,h4,h5]:=aE.place k r2 a2 e;refine#[v,gf,h1,h2,h3,λa m=>aaS _ (h4 a m),λH' d1 g1 im kp rr n1 fr=>?_];let#[g',c1,c2,c3]:=h5 H' d1 g1 im kp rr n1 fr;refine#[f1++g',?_,adQ.mpr #[a1,c2,λa ma b mb e=>?_],λb m=>?_]
    .unfold dY;rw[abo hx];refine .cons (r1.frame (λa m=>?_) im) c1;let#[o,w,_]:=r1.dW a m;rw[kp a o (λq=>a3 a m a (h4 a q) rfl) w,w]
    .subst e;let#[o,w,_]:=r1.dW a ma;rcases c3 a mb with q|q
     .exact a3 a ma a q rfl
     .rw[q] at w;ext w
    .rcases abC.mp m with m|m
     .exact .inl (aa4 _ m)
     .exact(c3 b m).imp (aaS _) id
def Rep.OI(r:Rep K H (.ins cn es) v fp)(hn:PySem.W.nsIn K mainGlobals cn=some (some (.ref C)))(nd:fp.Nodup)(e:es.lookup f=some d0):
  ∃a dx fs u gf,(a∉gf/\dx∉gf)/\v=.ref a/\H a=some (.ins C dx fs)/\fs.lookup f=some u/\Rep K H d0 u gf/\gf.Nodup/\(∀b∈gf,b∈fp)/\∀(H':Hp) (d1) (g1),bh H H'->(∀b o,b∉gf->H b=some o->H' b=some o)->Rep K H' d1 u g1->g1.Nodup->(∀b∈g1,b∈gf\/H b=none)->
   ∃bV,Rep K H' (.ins cn (dY f d1 es)) v bV/\bV.Nodup/\∀b∈bV,b∈fp\/H b=none:=by
 let#[a,dx,fs,g,rfl,rfl,h1,h2,h3,h4]:=r.nJ hn;let#[n1,n2]:=ab6.mp nd;let#[n3,n4]:=ab6.mp n2;let#[u,gf,c1,c2,c3,c4,c5]:=aE.place h3 h4 n4 e;refine#[a,dx,fs,u,gf,#[λm=>n1 (aab _ (c4 _ m)),λm=>n3 (c4 _ m)],rfl,h1,c1,c2,c3,λb m=>aab _ (aab _ (c4 b m)),λH' d1 g1 im kp rr m1 fr=>?_];let#[g',e1,e2,e3]:=c5 H' d1 g1 im kp rr m1 fr;have ka:=kp a _ (λq=>n1 (aab _ (c4 a q))) h1;have kd:=kp dx _ (λq=>n3 (c4 dx q)) h2;refine#[a::dx::g',.ins hn ka kd (by rw[LY e];apply h3) e1,?_,λb m=>?_]
 .refine ab6.mpr #[λm=>?_,ab6.mpr #[λm=>?_,e2]]
  .rcases aaO.mp m with q|m
   .exact n1 (by rw[q];apply aah)
   .rcases e3 a m with q|q
    .exact n1 (aab _ q)
    .rw[h1] at q;ext q
  .rcases e3 dx m with q|q
   .exact n3 q
   .rw[h2] at q;ext q
 .rcases aaO.mp m with q|m
  .exact .inl (by rw[q];apply aah)
  .rcases aaO.mp m with q|m
   .exact .inl (by rw[q];apply aab _ aah)
   .exact(e3 b m).imp (λq=>aab _ (aab _ q)) id
def Rep.place(r:Rep K H (.ins cn es) v fp)(hn:PySem.W.nsIn K mainGlobals cn=some (some (.ref C)))(nd:fp.Nodup)(e:es.lookup f=some d0):
  ∃a dx fs u gf,v=.ref a/\H a=some (.ins C dx fs)/\fs.lookup f=some u/\Rep K H d0 u gf/\gf.Nodup/\(∀b∈gf,b∈fp)/\∀(H') (d1) (g1),bh H H'->(∀b o,b∉gf->H b=some o->H' b=some o)->Rep K H' d1 u g1->g1.Nodup->(∀b∈g1,b∈gf\/H b=none)->
   ∃bV,Rep K H' (.ins cn (dY f d1 es)) v bV/\bV.Nodup/\∀b∈bV,b∈fp\/H b=none:=
 let#[a,dx,fs,u,gf,_,h]:=r.OI hn nd e;#[a,dx,fs,u,gf,h]
end
def Ok.fld{K:Fr}(hC:ClsAt K cn C)(ok:Ok K H0 S z au Y U H)(h:Y[i]? = some (some (.ins cn es,.own)))
  (hs:U[i]? = some (some (.ref b))) (hb:H b=some (.ins C dx fs)) (s1:aI H H1) (r1:Rep K H1 d y fd) (nd:fd.Nodup) (fr:∀c∈fd,H c=none):∃z',Ok K H0 S z' au (cP Y i (.ins cn (dY f d es))) U (upd H1 b (.ins C dx (L2.fT f y fs))):=by
 let#[v,bz,cZ,r0,zz]:=ok.sl i _ _ h;rw[hs] at cZ;ext cZ;let#[b',yr,vt,g,e,rfl,h3,h4,h5,h6]:=(r0.same s1).nJ hC.ns;ext e;rw[s1 _ _ hb] at h3;ext h3;have h3:=s1 _ _ hb;have B7:∀c∈fd,c∉b::dx::g:=λc m n=>by
  let#[#[o,w],_]:=ok.zd c i (zz.2 c n);rw[fr c m] at w;ext w
 have me:b∈b::dx::g:=aah;have md:dx∈b::dx::g:=aab _ aah;have mg:∀{c},c∈g->c∈b::dx::g:=λm=>aab _ (aab _ m)
 let#[n1,n2]:=ab6.mp zz.1;let#[n3,n4]:=ab6.mp n2;have ne:∀{c},c∈g->c≠b:=λm q=>n1 (q ▸ aab _ m)
 have im:bh H1 (upd H1 b (.ins C dx (L2.fT f y fs))):=bh.upd h3 rfl;let#[g',c1,c2,c3]:=aE.fT (r1.frame (λc m=>aN λq:c=b=>B7 c m (q ▸ me)) im) h5 (h6.frame (λc m=>aN (ne m)) im);have out:∀{c},c∈g'->c∈g\/c∈fd:=λ{c} m=>c2 c m
 refine ok.put h hs zz ((bh.of s1).trans im) (λc o n e=>by rw[aN λq:c=b=>n (q ▸ me)];apply s1 c o e) (.ins hC.ns bX (by rw[aN λq:dx=b=>n1 (q ▸ aah)];apply h4) (SK h5) c1) ?_ λc m=>?_
 .refine ab6.mpr #[λm=>?_,ab6.mpr #[λm=>(out m).elim n3 λq=>B7 dx q md,c3 n4 nd λc m n=>B7 c m (mg n)]];rcases aaO.mp m with q|m
  .exact n1 (q ▸ aah)
  .exact(out m).elim (λq=>n1 (aab _ q)) λq=>B7 b q me
 .rcases aaO.mp m with q|m
  .exact .inl (q ▸ me)
  .rcases aaO.mp m with q|m
   .exact .inl (q ▸ md)
   .exact(out m).imp mg (fr c)
def yw(i:Nat)(cn f:Str)(fv:EF):SF:=λY=>match fv Y,Y[i]? with
 |some (d,t),some (some (.ins c es,.own))=>if c=cn/\es.length<1000/\(kj t||aH d)=true then some (.nx (cP Y i (.ins c (dY f d es)))) else none
 |_,_=>none
def f6(i:Nat)(hC:ClsAt X.K cn C)(na:jd X.K C f)(hv:FP X a fv)(va:VA X i x:=by walk_at "va")(hs:swapsWith a (some (.Attribute (.Name x p1) f pos')) pos.line X.env=pure false:=by rfl):fL X (.Assign [.Attribute (.Name x p1) f pos'] a pos) (yw i cn f fv):=by
 let#[t,p,q]:=hv;exists 23,afJ va.pe p hs;unfold yw at e
 split at e
 .rename_i d tg c es h1 h2
  by_cases hc:c=cn/\es.length<1000/\(kj tg||aH d)=true
  .rw[if_pos hc] at e;ext e;let#[rfl,hl,ho]:=hc;let#[v,bz,cZ,r0,zz]:=ok.sl i _ _ h2;refine q ok h1 λH1 y fd s1 r1 g1=>#[v,cZ,?_]
   let#[b,dx,fs,g,rfl,rfl,h3,h4,h5,h6]:=r0.nJ hC.ns;have lf:fs.length<1000:=by have:=congrArg List.length h5;rw[List.length_map,List.length_map] at this;lia
   refine#[b,C,dx,fs,rfl,s1 _ _ h3,hC.cl,na,lf,?_];have g:fd.Nodup/\∀a∈fd,H a=none:=by
    rcases(aiR _ _).mp ho with h|h
    .cases tg<;>first|exact g1|ext h
    .rw[r1.aH h];apply#[ac6,λc m=>nomatch m]
   let#[z',bg]:=ok.fld hC h2 cZ h3 s1 r1 g.1 g.2;apply k z' U _ bg (.refl _ _)
  .rw[abo hc] at e;ext e
 .cases e
def Dn:D->Option D
 |.int i=>some (.int (-i))
 |_=>none
def abd(ha:FP X a fa):FP X (.UnaryOp .USub a pos) (e1 Dn fa):=by
 let#[t,pa,q]:=ha;exists 21,afE agf pa;let#[d1,t1,g1,g2,rfl]:=ng e;refine q ok g1 λH1 x f1 s1 r1 _=>?_
 ext r1<;>ext g2
 apply#[_,rfl,k H1 _ [] s1 (.int _) .nil]
def ab0(hm:X.mg x=some (.int n tk))(hg:GD X x:=by apply#[rfl,by decide]):FP X (.Name x pos) (eC (.int n)):=
 #[_,QI hg.1 hm (v:=.int n) #[_,rfl] hg.2,@λ_ _ _ _ _ _ H _ _ _ _ e q=>by ext e;apply q H _ _ (aI.refl H) (.int n) .nil]
def KC(o o':D->D->Option D)(fa fb fc:EF):EF:=λY=>match fa Y,fb Y with
 |some (d1,_),some (d2,_)=>match o d1 d2 with
  |some (.bl true)=>match fc Y with
   |some (d3,_)=>(o' d2 d3).map λd=>(d,.own)
   |none=>none
  |some (.bl false)=>some (.bl false,.own)
  |_=>none
 |_,_=>none
def ael(ho:dF X (compareOp op) r)(mL:dF X (compareOp yx) r')(dd:gK X.K r o)(pQ:gK X.K r' o')(ha:FP X a fa)(hb:FP X b fb)(hc:FP X c fc)(hm:lastMarks [op,yx] [b,c]=false:=by with_unfolding_all rfl):
  FP X (.Compare a [op,yx] [b,c] pos) (KC o o' fa fb fc):=by
 let#[ta,pa,sa]:=ha;let#[tb,pb,sb]:=hb;let#[tc,pc,sc]:=hc;exists 21,Zd ho mL pa pb pc hm;unfold KC at e
 split at e
 .rename_i d1 t1 d2 t2 e1 e2;refine sa ok e1 λH1 x f1 s1 r1 _=>?_
  refine sb (ok.same s1) e2 λH2 y f2 s2 r2 _=>?_
  exists h,o d1 d2,w,e,0;refine dd H2 x y d1 d2 f1 f2 w _ (r1.same s2) r2 h λH3 u s3 r3=>?_
  rw[h] at e;ext w<;>try (ext e;done)
  rename_i b';ext r3;refine#[b',rfl,?_];cases b' with
  |false=>
   ext e;rw[abo aa2];apply k H3 _ [] ((s1.trans s2).trans s3) (.bl false) .nil
  |true=>
   rw[if_pos rfl];dsimp only at e;exists h3,fc Y,w3,e,0;let#[d3,t3]:=w3;rw[h3] at e;dsimp only at e;cases h4:o' d2 d3 with
   |none=>rw[h4] at e;ext e
   |some d4=>
    rw[h4] at e;ext e;refine sc (((ok.same s1).same s2).same s3) h3 λH4 w' f4 s4 r4 _=>?_
    apply pQ H4 y w' d2 d3 f2 f4 d Q ((r2.same s3).same s4) r4 h4 λH5 v5 s5 r5=>k H5 v5 [] ((((s1.trans s2).trans s3).trans s4).trans s5) r5 .nil
 .cases e
def Wa(ha:FP X a fa)(hb:FP X b fb)(hc:FP X c fc)(hm:lastMarks [.LtE,.LtE] [b,c]=false:=by with_unfolding_all rfl):FP X (.Compare a [.LtE,.LtE] [b,c] pos) (KC oLe oLe fa fb fc):=ael JD JD sN sN ha hb hc hm
def pF(neg:Bool):D->D->Option D:=λkd dd=>match dd with
 |.bS es=>(iw kd).map λk=>.bl (if neg=true then !(aZ es k).isSome else(aZ es k).isSome)
 |_=>none
def QK(neg:Bool):R2:=λy x H Q=>∃a o,x=.ref a/\jl H a y o/\Q (.bl (if neg=true then !o.isSome else o.isSome)) H
def Fk{K:Fr}:gK K (QK neg) (pF neg):=by
 intro H y x d1 d2 f1 f2 d Q r1 r2 e k;cases r2 with
 | @bS a ak es fp h hk rs=>
  have e:((iw d1).map λk=>D.bl (if neg=true then !(aZ es k).isSome else(aZ es k).isSome))=some d:=e;exists zg,iw d1,key,e;ext e;have ek:=r1.key zg;subst ek;have ev:(fN ak key).isSome=(aZ es key).isSome:=by
   let#[h1,h2]:=sP hk rs;cases hv:aZ es key with
   |none=>rw[h2 hv];rfl
   |some dv=>let#[v,f,pX,_]:=h1 dv hv;rw[pX];rfl
  refine#[a,fN ak key,rfl,jl.k h,?_];rw[ev];apply k H _ (aI.refl H) (.bl _)
 |_=>ext e
def VN(hu:X.A.units+1<cLine)(ha:FP X a fa)(hb:FP X b fb)(hm:behindInMarks .In b=false:=by rfl):FP X (.Compare a [.In] [b] pos) (e2 (pF false) fa fb):=
 fp_2 Fk ha hb λta tb pa pb=>Ry (S8 hu pa pb) hm
def Ku(hu:X.A.units+1<cLine)(ha:FP X a fa)(hb:FP X b fb)(hm:behindInMarks .In b=false:=by rfl):FT X (.Compare a [.In] [b] pos) (tV (e2 (pF false) fa fb)):=by
 let#[ta,pa,sa]:=ha;let#[tb,pb,sb]:=hb;exists 22,acu (t:=vB (QK false) ta tb) (S8 hu pa pb) hm;let#[tg,e0]:=GY e;let#[d1,t1,d2,t2,e1,d7,e3,rfl]:=rD e0;refine sa ok e1 λH1 x f1 s1 r1 _=>?_
 refine sb (ok.same s1) d7 λH2 y f2 s2 r2 _=>?_
 refine Fk H2 x y d1 d2 f1 f2 _ _ (r1.same s2) r2 e3 λH3 v s3 r3=>?_
 ext r3;apply#[c,rfl,k H3 ((s1.trans s2).trans s3)]
def Dk(i:Nat)(cn f:Str)(fv:EF):SF:=λY=>match fv Y,Y[i]? with
 | some (d,_),some (some (.ins c es,.own))=>if c=cn then(match es.lookup f with
  |some (.lst ds)=>if(aH d&&aP ds&&decide (ds.length<sizeLine))=true then some (.nx (cP Y i (.ins c (dY f (.lst (ds++[d])) es)))) else none
  |_=>none) else none
 |_,_=>none
def Cm(i:Nat)(hC:ClsAt X.K cn C)(na:jd X.K C f)(hv:FP X a fv)(va:VA X i x:=by walk_at "va")(hs:starEach [a] X.env=[(false,eval a X.env)]:=by rfl)
  (hb:attributeBase (.Name x p) f X.env (eval (.Name x p) X.env)=eval (.Name x p) X.env:=by rfl)
  (kQ:attributeBase (.Attribute (.Name x p) f p1) "append" X.env (eval (.Attribute (.Name x p) f p1) X.env)=eval (.Attribute (.Name x p) f p1) X.env:=by rfl)
  (kR:((backTo p3 (starEach [a] X.env)).all (λx=>!x.1)&&(backToKw p3 (keywordEach [] X.env)).all (λx=>x.1.isSome)&&decide ([a].length+([]:List Keyword).length+(if([]:List Keyword).isEmpty then 0 else 1)<30))=true:=by rfl)
  (kT:(p2.endLine==p3.line)=true:=by rfl) (jQ:swapsWith (.Call (.Attribute (.Attribute (.Name x p) f p1) "append" p2) [a] [] p3) none pos.line X.env=pure false:=by rfl) :
  fL X (.Expr (.Call (.Attribute (.Attribute (.Name x p) f p1) "append" p2) [a] [] p3) pos) (Dk i cn f fv):=by
 let#[tv,mJ,sv]:=hv;exists 25,xB (wo PySem.F.plainAttrs_list PySem.F.slot_list_append PySem.F.type_list_append Hs (sy va.pe hb) (cV mJ fq hs) kQ kR kT hs rfl) jQ;unfold Dk at e
 split at e
 .rename_i d td c es g1 g2
  by_cases hc:c=cn
  .subst hc;rw[if_pos rfl] at e
   split at e
   .rename_i ds hl;let#[hc,e]:=ci e;ext e;let#[c1,c3]:=(aaV _ _).mp hc;let#[c1,c2]:=(aaV _ _).mp c1;let#[xv,fp,cZ,r,zz]:=ok.sl i _ _ g2;refine#[xv,cZ,?_];let#[b0,dx,fs,u,gf,rfl,h1,h2,h3,h4,h5,h6]:=r.place hC.ns zz.1 hl;refine#[b0,C,dx,fs,u,rfl,h1,hC.cl,na,h2,?_];let#[l,xs,f0,rfl,hq,_,_]:=h3.d_;refine#[.inl #[rfl,_,hq],?_];refine sv ok g1 λH1 v fd s1 rv gv=>?_
    have hn:=rv.aH c1;subst hn;generalize hw:(V.ref l)=w at h3 h6;cases h3 with
    | @lst a' ys _ f' h rs=>
     ext hw;have hn:=rs.aH c2;subst hn;have vd:=s1 _ _ h;refine#[_,ys,v,rfl,rfl,vd,by rw[<- rs.length];apply aaK c3,?_];have im:bh H1 (upd H1 l (.lst (ys++[v]))):=bh.upd vd rfl;let#[bV,k1,k2,k3]:=h6 (upd H1 l (.lst (ys++[v]))) (.lst (ds++[d])) [l] ((bh.of s1).trans im) (λc o n e=>by rw[aN λq=>n (by rw[q];apply aah)];apply s1 c o e)
      (.lst bX (aE.append ((rs.same s1).frame (λa m=>nomatch m) im) (aE.cons (rv.frame (λa m=>nomatch m) im) .nil))) h4 (λc m=>.inl m)
     let#[z',bg]:=ok.put g2 cZ zz ((bh.of s1).trans im) (λc o n e=>by rw[aN λq=>n (by rw[q];apply h5 l aah)];apply s1 c o e) k1 k2 k3;apply q z' U _ bg (.refl _ _)
   .cases e
  .rw[abo hc] at e;ext e
 .cases e
end L2.Ev
namespace L2
open PySem PySem.Spec PyProof.Rows
def V5:V->List V->Hp->VK->Prop:=λx vs H Q=>∃(l:Addr) (ns:List Int) (n:Int),x=.ref l/\vs=[.int n]/\H l=some (.lst (ns.map V.int))/\n∈ns/\Q .aC (upd H l (.lst ((ns.erase n).map V.int)))
def Zg(n:Int):Value->Bool
 |.int a _=>a==n
 |_=>false
def Lk{ns:List Int}(r:aR (ns.map V.int) us)(h:m<us.length)(h2:m<ns.length):∃t,us[m]=.int ns[m] t:=by
 let#[u,hu,ru]:=r.get (by rw[adm,abm h2];rfl);rw[abm h] at hu;let#[t,rt]:=ru;apply#[t,by rw[<- rt];apply ach hu]
theorem OE:∀{ns:List Int} {n} {m} (h:m<ns.idxOf n) (h2),ns[m]≠n
 |[],_,_,_,h2=>absurd h2 (Nat.not_lt_zero _)
 |a::ns,n,m,h,h2=>by
  rw[List.idxOf_cons] at h
  by_cases ha:(a==n)=true
  .rw[ha] at h;apply absurd h (Nat.not_lt_zero _)
  .have ha:(a==n)=false:=by simpa using ha
   rw[ha] at h;cases m with
   |zero=>apply ad3.mp ha
   |succ m=>apply OE (Nat.lt_of_succ_lt_succ h) (Nat.lt_of_succ_lt_succ h2)
def abk{l:List α}:(l.map f).eraseIdx k=(l.eraseIdx k).map f:=by
 rw[List.eraseIdx_eq_take_drop_succ,List.eraseIdx_eq_take_drop_succ,aea,aiT,List.map_drop]
def aba:Fg X "list.remove" V5:=by
 intro af s U H x vs v us Q I rx rv h;let#[l,ns,n,rfl,rfl,hH,hn,q]:=h;ext rx;let#[u,rfl,ru]:=rv.one;let#[t,rfl]:=ru;let#[z,ay,nn,r,hl,e]:=I.uC hH;have hi:ns.idxOf n<ns.length:=List.idxOf_lt_length_of_mem hn;rw[List.length_map] at hl z;have hj:ns.idxOf n<ay.toArray.size:=by rw[abK];lia
 refine call_meets F.slot_list_remove #[_,e,rfl] F.entry_list_remove (F.args_list_remove_2 _ _)
  (MeetsSeq.list_remove l ay.toArray nn (.int n t) (Zg n) (λy my=>?_) (ns.idxOf n) hj ?_ (λm hm h2=>?_) (by rw[abK];lia)) #[e,?_]
 .let#[m,hm,em]:=Array.mem_iff_getElem.mp my;rw[abK] at hm;rw[List.getElem_toArray] at em;let#[t',et]:=Lk r hm (by lia);rw[<- em,et];apply MeetsSeq.EqGives.int _ _ _ _
 .rw[List.getElem_toArray];let#[t',et]:=Lk r (by lia) hi;rw[et];rw[List.getElem_idxOf hi];apply aia n
 .rw[List.getElem_toArray];rw[abK] at hm;let#[t',et]:=Lk r hm (by lia);rw[et];apply ad3.mpr (OE h2 (by lia))
 .refine#[.aC,_,I.KR (its':=ay.eraseIdx (ns.idxOf n)) hH e ?_ ?_ ?_,rfl,q]
  .show ay.toArray.eraseIdxIfInBounds _=(ay.eraseIdx _).toArray;rw[List.eraseIdxIfInBounds_toArray]
  .rw[List.erase_eq_eraseIdx_of_idxOf rfl,<- abk];apply r.eraseIdx _
  .rw[List.length_map];have:=List.length_erase_le (a:=n) (l:=ns)
   lia
end L2
namespace L2.Ev
open PySem PySem.Spec PyProof.Rows
def CW(env:Env):Str×NameKind->Str×NameKind:=λ(n,k)=>if(k==NameKind.free&&env.scope.kind == .function&&env.kindOf n==some .cell) then(n,NameKind.cell) else(n,k)
theorem NJ:∀{names:List (Str×NameKind)} {x},(names.lookup x=some .cell\/names.lookup x=some .free)->(names.map (CW env)).lookup x=some .cell\/(names.map (CW env)).lookup x=some .free
 |[],_,h=>by simp at h
 |(n,k)::r,x,h=>by
  rw[aaB];have e:CW env (n,k)=(n,.cell)\/CW env (n,k)=(n,k):=by
   show(if(k==NameKind.free&&env.scope.kind == .function&&env.kindOf n==some .cell)=true then(n,NameKind.cell) else(n,k))=_\/(if(k==NameKind.free&&env.scope.kind == .function&&env.kindOf n==some .cell)=true then(n,NameKind.cell) else(n,k))=_
   split
   .exact .inl rfl
   .exact .inr rfl
  cases hx:x==n with
  |true=>
   simp only[aeW,hx] at h;rcases e with e|e<;>rw[e]<;>simp only[aeW,hx]
   .exact .inl trivial
   .exact h
  |false=>
   simp only[aeW,hx] at h;have ih:=NJ (env:=env) h;rcases e with e|e<;>rw[e]<;>simp only[aeW,hx]<;>apply ih
def Zm(h:xJ M0 Ti sc M js=true):oN (f_ X M0 Ti s3 H3 fp) M js sc:=by
 unfold xJ at h;let#[h,a6]:=(aaV _ _).mp h;let#[h,a5]:=(aaV _ _).mp h;let#[h,a4]:=(aaV _ _).mp h;let#[h,a3]:=(aaV _ _).mp h;let#[a1,a2]:=(aaV _ _).mp h;refine#[?_,λy hy=>?_,λy hy hl=>?_,a4,λx hx=>?_,aaK a6]
 .cases hk:sc.kind<;>rw[hk] at a1<;>first|rfl|exact absurd a1 (by decide)
 .have:=aei.mp a2 y hy;intro z;rw[z] at this;apply absurd this (by decide)
 .have:=aei.mp a3 y hy;rw[hl] at this;have this:=this;cases q:sc.names.lookup y.1 with
  |none=>rw[q] at this;apply absurd this (by decide)
  |some k=>rw[q] at this;ext k<;>first|rfl|exact absurd this (by decide)
 .have:=aei.mp a5 x hx;refine NJ ?_;cases q:Ti.names.lookup x with
  |none=>rw[q] at this;apply absurd this (by decide)
  |some k=>rw[q] at this;ext k<;>first|exact .inl rfl|exact .inr rfl|exact absurd this (by decide)
def zf(i:Nat)(fv:EF):SF:=λY=>match fv Y,Y[i]? with
 |some (.int n,_),some (some (.lst ds,.own))=>match eF ds with
  |some ns=>if n∈ns then some (.nx (cP Y i (.lst ((ns.erase n).map D.int)))) else none
  |none=>none
 |_,_=>none
theorem NQ:∀{ds} {ns},eF ds=some ns->ds=ns.map D.int
 |[],_,e=>by ext e;rfl
 |d::ds,ns,e=>by
  ext d<;>try (ext e;done)
  rename_i i;unfold eF at e;exists h,eF ds,r,e;ext e;rw[NQ h];rfl
def aa9(i:Nat)(hv:FP X a fv)(va:VA X i x:=by walk_at "va")(hs:starEach [a] X.env=[(false,eval a X.env)]:=by rfl)
  (kQ:attributeBase (.Name x p1) "remove" X.env (eval (.Name x p1) X.env)=eval (.Name x p1) X.env:=by rfl)
  (kR:((backTo p3 (starEach [a] X.env)).all (λx=>!x.1)&&(backToKw p3 (keywordEach [] X.env)).all (λx=>x.1.isSome)&&decide ([a].length+([]:List Keyword).length+(if([]:List Keyword).isEmpty then 0 else 1)<30))=true:=by rfl)
  (kT:(p2.endLine==p3.line)=true:=by rfl) (jQ:swapsWith (.Call (.Attribute (.Name x p1) "remove" p2) [a] [] p3) none pos.line X.env=pure false:=by rfl) :
  fL X (.Expr (.Call (.Attribute (.Name x p1) "remove" p2) [a] [] p3) pos) (zf i fv):=by
 let#[tv,mJ,sv]:=hv;exists 25,xB (wo PySem.F.plainAttrs_list PySem.F.slot_list_remove PySem.F.type_list_remove aba va.pe (cV mJ fq hs) kQ kR kT hs rfl) jQ;unfold zf at e
 split at e
 .rename_i n td ds g1 g2;exists hI,eF ds,ns,e;dsimp only at e;let#[hc,e]:=ci e;ext e;have:=NQ hI;subst this;let#[xv,fp,cZ,r,zz]:=ok.sl i _ _ g2;refine#[xv,cZ,?_];let#[l,xs,f,rfl,hq,_,_]:=r.d_;refine#[.inl #[rfl,_,hq],?_];refine sv ok g1 λH1 v fd s1 rv gv=>?_
  ext rv;have r':=r.same s1;have cg:=ok.same s1;generalize hw:(V.ref l)=w at r' cZ;cases r' with
  | @lst a' ys _ f' h rs=>
   ext hw;have ey:=tR rs hI;subst ey;have hn:=rs.aH (fm ns);subst hn;refine#[_,ns,n,rfl,rfl,h,hc,?_];have im:bh H1 (upd H1 l (.lst ((ns.erase n).map V.int))):=bh.upd h rfl;apply q z U _ (Ok.Ew cg g2 cZ zz aah h rfl (.lst bX (zo _))) (.refl _ _)
 .cases e
def oY(fa fh:EF):EF:=λY=>match fa Y,fh Y with
 |some (.lst ds,_),some (.int i,_)=>if aP ds=true then some (.lst (cutD ds none (some i)),.own) else none
 |_,_=>none
def E1(ha:FP X a fa)(hh:FP X b fh):FP X (.Subscript a (.Slice none (some b) none p2) pos) (oY fa fh):=by
 let#[t,p,q]:=ha;let#[th,ph,qh]:=hh;exists 21,E4 Js p HN (JT ph);unfold oY at e
 split at e
 .rename_i ds t1 i t2 e1 e2;let#[hi,e]:=ci e;ext e;refine q ok e1 λH1 x f1 s1 r1 _=>?_
  refine qh (ok.same s1) e2 λH2 y f2 s2 r2 _=>?_
  ext r2;refine#[i,rfl,?_];let#[w,xs,f,rfl,hq,rs,_]:=(r1.same s2).d_;have hn:=rs.aH hi;subst hn;refine#[w,xs,rfl,hq,λp hp=>?_];have s3:aI H2 (upd H2 p (.lst (lN xs none (some i)))):=λb o e=>by rw[aN (cX e hp)];apply e
  have rr:aE X.K H2 (cutD ds none (some i)) (lN xs none (some i)) []:=by
   unfold cutD lN;rw[rs.length];apply aE.BR _ (aE.Bg _ rs)
  refine k _ _ [p] ((s1.trans s2).trans s3) (.lst bX (rr.same s3)) #[ab6.mpr #[(λm=>by ext m),ac6],λa m=>?_];cases aav.mp m;apply s1.free (s2.free hp)
 .cases e
def aI.new{H:Hp}{l:Addr}{o:HO}(h:H l=none):aI H (upd H l o):=λb o' e=>by rw[aN (cX e h)];apply e
end L2.Ev
namespace L2
open PySem PySem.Spec PyProof.Rows
def abI(I:Inv X af U H s)(hN:X.N.Nodup)(hi:X.N[i]? = some n)(hk:X.env.scope.names.lookup n=some .local)
  (h:∀s',Inv X af (U.set i none) H s'->Q () s'):wpAny M A (do bindName X.env n .none;unbindBehindTheSuite X.env n pos) Q E s:=by
 let#[m,hn,hl]:=id I.loc;have wM:(X.env.scope.kind == .class||(X.env.scope.kind == .module&&X.env.locals != X.env.globals))=false:=by rw[I.ok.kind];rfl
 have kc:=I.kc;have lo:∀{b} {o},X.cT.heap.get? b=some o->b≠X.env.locals:=λ{b o} e=>acV (ac9 (abh e) I.ok.above)
 refine wpAny_nameGoes_keeps hk hn wM λh' v Ie hs=>?_
 refine h _ #[I.ok,I.os,I.bare,#[λb o e n hb hx=>(hs.2 b (lo e)).trans (I.base.keep b o e n hb hx),λb o e n hb hx=>?_,I.base.free,λb o e hx=>?_,I.base.jw,I.base.jh,I.base.jU],#[_,Ie,λj y v' e1 e2 e3=>?_],λy c e=>?_,I.free,I.gU,λp hp=>?_,
  I.aG.tracked λb u o hb q=>(hs.2 b λz=>by rw[z,I.free] at hb;ext hb).trans q,by simpa using I.len,I.hq]
 .let#[sl,e1]:=I.base.slot b o e n hb hx;apply#[sl,(hs.2 b (lo e)).trans e1]
 .let#[o',e1]:=I.base.there b o e hx;apply#[o',(hs.2 b (lo e)).trans e1]
 .have hj:j≠i:=λz=>by
   subst z;have eT:j<U.length:=by rw[I.len];apply(ac0.mp hi).1
   rw[aeT eT] at e2;ext e2
  rw[ac8 (agM hj)] at e2;let#[u',r',q]:=hl j y v' e1 e2 e3;refine#[u',r',?_];rcases q with⟨k,e⟩|⟨k,c,e,z⟩
  .refine .inl #[k,?_];have:y≠n:=λe=>hj (Kq hN e1 (e ▸ hi))
   apply(abo this).trans e
  .exact .inr #[k,c,e,z.sameBut hs (kc y c e)]
 .let#[w',z]:=I.cell y c e;apply#[w',z.sameBut hs (kc y c e)]
 .let#[e,n,ne,nf,d]:=I.pin p hp;apply#[(hs.2 p.1 ne).trans e,n,ne,nf,d]
def w_(K:Fr)(C D:Addr):Prop:=∃N bm i N' r_ i',sF K C N bm i/\sF K D N' r_ i'/\r_.contains (.type "BaseException")=true/\(Value.ref C::bm).contains (.ref D)=true
def afF(L:gz X af U H a (.ref C) aS s)(cat:w_ X.K C D)(hg:Gl X x)(hm:X.mg x=some (.ref D))(k:R (.ok .brk) s)(eU:(x==("__debug__":Str))=false:=by decide):
  codeAny (model X.prog X.w) (X.A.mark (some (.ref a))) (.handlers (.ref a) [.ExceptHandler (some (.Name x px)) none [] pos] X.env) R s:=by
 let#[_,_,_,_,_,_,#[hC],#[hD],hb,hc]:=cat;have I:=L.known.choose_spec.2.nq a L.known.choose_spec.1.hq;have KI:=L.inv.cU;let#[oe,vs,a0,T,oT,ts,h1,h2,_]:=L.ob;refine codeAny_handlers_test (qX I hg hm ?_ eU);let#[hh,g,d,t,os]:=s;refine aaw (KI _ _ hC) (KI _ _ hD) h1 h2 hb ?_;rw[hc];apply k
def agK(L:gz X af U H a (.ref C) aS s)(hc:X.calm=true)(hx:X.ex=[])(eE:X.stack=X.env::X.outer)(hf:X.env.frame=some X.env.locals)(cat:w_ X.K C D)(hg:Gl X x)(hm:X.mg x=some (.ref D))
  (hN:X.N.Nodup) (hi:X.N[i]? = some n) (hk:X.env.scope.names.lookup n=some .local)
  (h:∀s5 H5,rY H H5 a (.ref C) aS->Inv (X.nq a) af (U.set i (some (.ref a))) H5 s5->
   wpAny (model X.prog X.w) (X.A.mark (some (.ref a))) (execs (b0::E5) X.env) (SP (X.nq a) af { nx:=λU H=>W.nx (U.set i none) H,rt:=W.rt,bk:=λU H=>W.bk (U.set i none) H,ct:=λU H=>W.ct (U.set i none) H }) (λ_ _=>False) s5)
  (eU:(x==("__debug__":Str))=false:=by decide) :
  wpAny (model X.prog X.w) X.A (noteFrame (.ref a) X.env) (λ_ s2=>wpAny (model X.prog X.w) X.A (setFlight (.ref a) none) (λ_ s3=>wpAny (model X.prog X.w) X.A (handleBy (.ref a) X.env [.ExceptHandler (some (.Name x px)) (some n) (b0::E5) pos]) (SP X af W) X.xe s3) X.xe s2) X.xe s:=by
 refine L.ZC hx eE hf λs3 L3=>wpAny_handleBy_cons (afF L3 cat hg hm ?_ eU) (λz=>nomatch z)
 refine codeAny_handlers_suite_as (L3.again hx λs4 L4=>?_);let#[H5,kn,I4]:=L4.known;have I4:=I4.nq a kn.hq;refine GW (X:=X.nq a) I4 hN hi (.inl hk) (show RelV (V.ref a) (Value.ref a) from rfl) (λs5 I5=>?_) (.inr hk);refine aeo (h s5 H5 kn I5) (λf s6 q=>?_) λ_ _ z=>False.elim z
 have fin:∀{jo} {H6}{Z:Shared->Prop},Inv (X.nq a) af jo H6 s6->(∀s7,Inv X af (jo.set i none) H6 s7->Z s7)->wpAny (model X.prog X.w) X.A (do bindName X.env n .none;unbindBehindTheSuite X.env n pos) (λ_ s7=>Z s7) X.xe s6:=λ{jo H6 Z} I6 k=>
  abI (L4.inv.aal hc I6) hN hi hk k
 cases f with
 |next=>let#[jo,H6,I6,q6]:=q;apply fin I6 λs7 I7=>#[_,H6,I7,q6]
 |brk=>let#[jo,H6,I6,q6]:=q;apply fin I6 λs7 I7=>#[_,H6,I7,q6]
 |cont=>let#[jo,H6,I6,q6]:=q;apply fin I6 λs7 I7=>#[_,H6,I7,q6]
 |ret u=>let#[v,jo,H6,I6,r6,q6]:=q;apply fin I6 λs7 I7=>#[v,_,H6,I7,r6,q6]
open PySem PySem.Spec PySem.W PySem.Calls PyProof.Rows Builtin Builtin.ObjectAttr Builtin.Getset_descriptor
structure nu(K:Frag)(C:Addr):Prop where
 ga:findIn K (.ref C) "__getattribute__"=some (some (.builtin "BaseException.__getattribute__"))
 gh:findIn K (.ref C) "__getattr__"=some none
 at_:findIn K (.ref C) "__class__"=some (some (.builtin "object.__class__"))
 get:specialIn K (.builtin "object.__class__") "__get__"=some (some (.builtin "getset_descriptor.__get__"))
 tk:takesIn K (.builtin "object.__class__")=some true
 mo:mroIn K C (.type "object")=some true
 mb:mroIn K C (.type "BaseException")=some true
 cl:(clsIn K C).isSome=true
section
variable{s:Shared}{K:Frag}
def abX(X:K.In s.heap)(hx:s.heap.get? x=some ox)(hc:ox.cls=.ref C)(hm:mroIn K C (.type "object")=some true)
  (h:R (.ok (.ret (.ref C))) s):codeAny (model prog w) A (.call (.builtin "getset_descriptor.__get__") #[[.builtin "object.__class__",.ref x,tp],[]]) R s:=by
 let#[hh,g,dr,t,os]:=s;have L0:Looks (model prog w) hh (typeOf (.ref x)) (.ref C):=hc ▸ (Looks.ld hx).andThen .now;have L1:=looks_mroIn (M:=model prog w) X hm;refine codeAny_call_builtin KF.slot_gs.plain KF.entry_gs (KF.slot_gs.check _ _ _ _ _ _ _ _ KF.type_class (KF.args_gs _ _ _) ?_);unfold Builtin.«getset_descriptor.__get__» descrGet;rw[dga_obj];refine aaN (acp ?_);unfold descrGetter descrCheckInstance descrNameAndClass isInstance;simp only[KF.owner_class]
 repeat lk
 refine#[Code.quiet_builtin _ (by decide +kernel),agF KF.entry_class ?_];unfold Builtin.«object.__class__» shownTypeOf
 repeat lk
 apply h
def X4(X:K.In s.heap)(k:nu K C):Looks (model prog w) s.heap (find (.ref x) (.ref C) "__class__") (.bind (.builtin "getset_descriptor.__get__") (.builtin "object.__class__")):=by
 have L1:=looks_findIn (M:=model prog w) X k.at_;have L2:Looks (model prog w) s.heap (getOf (some (.builtin "object.__class__"))) (some (.builtin "getset_descriptor.__get__")):=looks_specialIn X k.get;have L3:=looks_takesIn (M:=model prog w) X k.tk;apply L1.andThen (L2.andThen ((show Looks (model prog w) s.heap (dataDescriptor? (some (.builtin "object.__class__")) (some (.builtin "getset_descriptor.__get__"))) (some (.builtin "getset_descriptor.__get__",.builtin "object.__class__")) from L3.andThen .now).andThen (Looks.tag .now)))
def Xc(X:K.In s.heap)(k:nu K C)(hx:s.heap.get? x=some ox)(hc:ox.cls=.ref C)(hq:Q () s):wpAny M A (checkBuiltinCall "BaseException.__getattribute__" #[[.ref x,Zo],[]]) Q E s:=by
 let#[hh,g,dr,t,os]:=s;have hk:builtinKind "BaseException.__getattribute__"=some .slot:=by decide +kernel
 have VE:splitId "BaseException.__getattribute__"=some ("BaseException","__getattribute__"):=by decide +kernel
 have L0:Looks M hh (typeOf (.ref x)) (.ref C):=hc ▸ (Looks.ld hx).andThen .now;have L1:=looks_mroIn (M:=M) X k.mb;have LI:Looks M hh (isInstance (.ref x) (.type "BaseException")) true:=L0.andThen L1;have ha:=F.args_bexc_ga (.ref x) Zo;simp only[checkBuiltinCall,hk,VE];refine aaN (LI.at ?_)
 repeat (first|assumption|wp_step)
def aeY(X:K.In s.heap)(k:nu K C)(hx:s.heap.get? x=some ox)(hc:ox.cls=.ref C)(hq:Q (.done (.ret (.ref C))) s):
  wpAny (model prog w) A (Builtin.«object.__getattribute__» #[[.ref x,.str "__class__" tk],[]]) Q E s:=by
 let#[hh,g,dr,t,os]:=s;have L0:Looks (model prog w) hh (typeOf (.ref x)) (.ref C):=hc ▸ (Looks.ld hx).andThen .now;have L1:=X4 (prog:=prog) (w:=w) (x:=x) X k;refine aaN (acp (aaN (acp (aaN (L0.at (aaN (L1.at ?_)))))));apply aaN (agJ (wpAny_call (abX X hx hc k.mo (acp hq))))
def abU(X:K.In s.heap)(k:nu K C)(hx:s.heap.get? x=some ox)(hc:ox.cls=.ref C)(h:Q (some (.ref C)) { s with toks:=s.toks+1 }):wpAny (model prog w) A (getAttr? (.ref x) "__class__") Q E s:=by
 let#[hh,g,dr,t,os]:=s;have L0:Looks (model prog w) hh (typeOf (.ref x)) (.ref C):=hc ▸ (Looks.ld hx).andThen .now;have L1:=looks_findIn (M:=model prog w) X k.ga;have L2:=looks_findIn (M:=model prog w) X k.gh;have f3:=F.attr_ValueError.ga.bind (.ref x);have hx0:(false&&onTheHeap (Value.builtin "BaseException.__getattribute__"))=false:=rfl;have qz:(Value.builtin "BaseException.__getattribute__" == Value.builtin "object.__getattribute__")=false:=by decide +kernel
 have Vb:(onTheHeap (Value.ref C)&&Value.builtin "BaseException.__getattribute__" == Value.builtin "object.__getattribute__")=false:=by rw[qz];rfl
 unfold getAttr? getAttrBy? getAttrBy;refine aaN (wpAny_mkText (aaN (wpAny_attempt (agJ (aaN (L0.at (aaN (L1.at ?_))))))));dsimp only;rw[abo (by rw[Vb];decide)];unfold getAttrByItsOwn hookBefore;refine aaN ?_;rw[if_pos (show onTheHeap (Value.ref C)=true from rfl)];refine L2.at ?_;refine aaN (wpAny_attempt (agJ ?_));unfold callGetattribute;rw[abo (by rw[hx0];decide)];unfold boundAndCalled;rw[f3];refine aaN (acp (wpAny_call ?_));refine codeAny_call_builtin F.attr_ValueError.ga.plain F.entry_bexc_ga (Xc X k hx hc (aeY X k hx hc ?_));apply acp (acp h)
end
def Sd{K:Frag}(k:nu K C):KitX K (.ref x) (.ref C) (λh=>∃o,h.get? x=some o/\o.cls=.ref C) where
 ty:=λ_ _ _ #[o,h1,h2]=>h2 ▸ (Looks.ld h1).andThen .now
 it:=λ_ _ X _=>by
  let#[cd,iD]:=afS.mp k.cl;unfold clsIn at iD
  split at iD
  .rename_i c' d' XT qT ho;intro A' Q' E' s' k q;unfold isType loadHead;apply aaN (wpAny_loadPart (k _ _ (X _ _ ho)) (acp q))
  .cases iD
 ne:=λh tp dd ay n sl X htp=>by
  let#[cd,iD]:=afS.mp k.cl;refine ahe.mpr λq=>?_
  have e:=Value.ref.inj (ahp.mp q);subst e;unfold clsIn at iD
  split at iD
  .rename_i c' d' XT qT ho;have z:=(X _ _ ho).symm.trans htp;ext z
  .cases iD
 ca:=λX #[o,h1,h2] q=>abU X k h1 h2 q
def adx:gI X (.builtin "isinstance") (λxs H Q=>∃a C c cv b de ob,xs=[V.ref a,c]/\(∀u,RelV c u->u=cv)/\H a=some (v8 ob a (.ref C) de)/\nu X.K C/\kitOne X.K (.ref C) cv=some b/\Q (.bl b) H):=by
 intro af s U H xs us Q I r h;let#[a,C,c,cv,bb,de,ob,rfl,hc,ha,k,e,q]:=h;let#[u,w',rfl,ru,eB]:=vals2 r;obtain rfl:=hc w' eB;cases(show u=Value.ref a from ru);apply kia_one (Sd k) I.cU (RC I.aG ha) e (λz=>nomatch z) λtk=>#[.bl bb,H,I.tok tk,rfl,q]
def Am(hg:Gl X x)(hm:X.mg x=some (.ref C))(eU:(x==("__debug__":Str))=false:=by decide):PE X (.Name x pos) (λ_ H Q=>Q (.ref C) H):=λaf s U H Q I h=>qX I hg hm #[V.ref C,H,I,(rfl:Value.ref C=Value.ref C),h] eU
end L2
namespace L2.Ev
open PySem PySem.Spec PyProof.Rows
def wk(X:Cx)(st:Stmt):TS:=λW U H=>∀(af) (s),Inv X af U H s->wpAny (model X.prog X.w) X.A (exec st X.env) (SP X af W) X.xe s
def Av{st:Stmt}:PS X st (wk X st):=λaf s _ _ _ I h=>h af s I
def RX(cn:Str)(g:AF):SF:=λY=>match g Y with
 |some _=>some (.er true (cn,none) Y)
 |none=>none
def acN(hc:X.calm=true)(cl:Bp X.K C)(hn:PySem.W.nsIn X.K mainGlobals cn=some (some (.ref C)))(hm:X.mg x=some (.ref C))(ha:FA X (e::es) g)(hl:(e::es).length<=1000:=by decide)(hx:X.ex=[]:=by rfl)(hg:GD X x:=by apply#[rfl,by decide])
  (he:SE X e es gR:=by apply#[rfl,rfl]):fL X (.Raise (some (.Call (.Name x np) (e::es) [] gR)) none pos) (RX cn g):=by
 let#[t,pa,hz,qa]:=ha;refine#[_,Av,@λH0 S z au Y U H E o ok e0 k=>?_];unfold RX at e0;cases h1:g Y with
 |none=>rw[h1] at e0;ext e0
 |some qs=>
  rw[h1] at e0;ext e0;let#[ES,th,kk]:=k;intro af s I;refine ad0 hc hx th cl hg.1 hm pa hg.2 he.1 he.2 af s U H E I ?_;refine qa ok h1 λH1 vs fp s1 r1 _=>#[?_,kk z U H1 C (ok.same s1) (.refl _ _) hn]
  rw[<- r1.length,List.length_map,hz Y qs h1];apply af4 (vD hl)
inductive ER where
 |ok (d:D) (Y:aU)|er (cn:XN) (Y:aU)
def abP(X:Cx)(H0:Hp)(S:List Addr)(au:List rJ)(U:St)(Q:VK)(E:XK):ER->Prop
 |.ok d Y=>∀z H1 H' v fp,Ok X.K H0 S z au Y U H1->aI H1 H'->Rep X.K H' d v fp->di z H1 .own fp->Q v H'
 |.er cn Y=>∀z H' C,Ok X.K H0 S z au Y U H'->PySem.W.nsIn X.K mainGlobals cn.1=some (some (.ref C))->E (.ref C) cn.2 H'
abbrev XR:=aU->Option ER
def FE(X:Cx)(e:Expr)(f:XR):Prop:=∃t,PX X e t/\∀{H0} {S} {z} {au} {Y} {U} {H} {Q} {E} {r},
 Ok X.K H0 S z au Y U H->f Y=some r->abP X H0 S au U Q E r->t U H Q E
def Tw:sW X (λ_ _ _ _=>False):=λ_ _ _ _ _ _ _ _ z=>z.elim
def Bu(f:XR):SF:=λY=>match f Y with
 |some (.ok d Y')=>some (.nx Y')
 |some (.er cn Y')=>some (.er false cn Y')
 |none=>none
def AY(f:XR):SF:=λY=>match f Y with
 |some (.ok d Y')=>some (.rt d)
 |some (.er cn Y')=>some (.er false cn Y')
 |none=>none
def af5(he:FE X e f)(hs:swapsWith e none pos.line X.env=pure false:=by rfl):fL X (.Expr e pos) (Bu f):=by
 let#[t,p,q]:=he;exists 23,Av;unfold Bu at e;cases h:f Y with
 |none=>rw[h] at e;ext e
 |some r=>
  rw[h] at e;intro af s I;cases r with
  |ok d bf=>
   ext e;refine Qc Tw p hs af s U H E I ?_;apply q ok h λz1 H1 H2 v fp cg s1 r1 g1=>k z1 U H2 (cg.same s1) (.refl _ _)
  |er cn bf=>
   ext e;let#[ES,th,kk]:=k;refine Qc th p hs af s U H E I ?_;apply q ok h λz1 H1 C cg hC=>kk z1 U H1 C cg (.refl _ _) hC
def abv(he:FE X e f):fL X (.Return (some e) pos) (AY f):=by
 let#[t,p,q]:=he;exists 23,Av;unfold AY at e;cases h:f Y with
 |none=>rw[h] at e;ext e
 |some r=>
  rw[h] at e;intro af s I;cases r with
  |ok d bf=>
   ext e;refine QB Tw p af s U H E I ?_;refine q ok h λz1 H1 H2 v fp cg s1 r1 g1=>k H2 v fp (λa o e n=>s1 _ _ (cg.en a o e n)) r1 g1.1 λa m=>?_
   cases h0:H0 a with
   |none=>apply .inl rfl
   |some o=>
    by_cases hs:a∈S
    .exact .inr hs
    .have w:=cg.en a o h0 hs;rw[g1.2 a m] at w;ext w
  |er cn bf=>
   ext e;let#[ES,th,kk]:=k;refine QB th p af s U H E I ?_;apply q ok h λz1 H1 C cg hC=>kk z1 U H1 C cg (.refl _ _) hC
def Lb(i:Nat)(sub:Str->Bool)(f g:SF):SF:=λY=>match f Y with
 | some (.er false cn Y')=>if sub cn.1=true then(match g (Y'.set i (some (.exc cn,.own))) with
  |some (.nx bI)=>some (.nx (bI.set i none))
  |some (.bk bI)=>some (.bk (bI.set i none))
  |some (.ct bI)=>some (.ct (bI.set i none))
  |some (.rt d)=>some (.rt d)
  |_=>none) else none
 |some (.er true _ _)=>none
 |o=>o
def abF{K:Fr}(hC:PySem.W.nsIn K mainGlobals cn.1=some (some (.ref C)))(k:rY H H' a (.ref C) cn.2):Rep K H' (.exc cn) (.ref a) []:=by
 let#[c,aS]:=cn;let#[ob,vs,_,_,k]:=k;cases aS with
 |none=>ext k;apply .exc hC bX λ_ e=>by ext e
 |some n=>let#[dx,ne,_,rfl]:=k;apply .exc hC bX λm e=>by ext e;apply#[dx,rfl,by rw[aN ne,bX]]
def Ok.unset{K:Fr}(ok:Ok K H0 S z au Y U H)(i:Nat):Ok K H0 S z au (Y.set i none) (U.set i none) H:=by
 have at_:∀{j} {w},(Y.set i none)[j]? = some (some w)->j≠i/\Y[j]? = some (some w):=λ{j w} e=>by
  have hj:j≠i:=λq=>by
   subst q
   by_cases hl:j<Y.length
   .rw[aeT hl] at e;ext e
   .rw[aiD (by rw[ahn];apply Nat.le_of_not_lt hl)] at e;ext e
  apply#[hj,by rw[ac8 (agM hj)] at e;apply e]
 refine#[λj d t e=>?_,λp m=>?_,ok.zd,ok.en,by rw[ahn,ahn];apply ok.ln]
 .let#[hj,e]:=at_ e;let#[v,fp,a,b,c]:=ok.sl j d t e;apply#[v,fp,by rw[ac8 (agM hj)];apply a,b,c]
 .let#[r,h]:=ok.hl p m;apply#[r,λa ha j q=>let#[h1,h2]:=h a ha j q;#[h1,λd e=>h2 d (at_ e).2]]
def abE(q:SP (X.kF af R) [] E fl s):SP X af E fl s:=by
 cases fl with
 |next=>let#[aB,H',I,q]:=q;apply#[aB,H',I.oS,q]
 |brk=>let#[aB,H',I,q]:=q;apply#[aB,H',I.oS,q]
 |cont=>let#[aB,H',I,q]:=q;apply#[aB,H',I.oS,q]
 |ret u=>let#[v,aB,H',I,r,q]:=q;apply#[v,aB,H',I.oS,r,q]
def XY(hb:∀af R,FS (X.kF af R) body f)(I:Inv X af U H s)(ok:Ok X.K H0 S z au Y U H)(hf:f Y=some o1)
  (k:match o1 with
   |.er true _ _=>False
   |.er false cn Y'=>∀z' aB H' C a s',Ok X.K H0 S z' au Y' aB H'->Kp X U aB->PySem.W.nsIn X.K mainGlobals cn.1=some (some (.ref C))->gz X af aB H' a (.ref C) cn.2 s'->
    wpAny (model X.prog X.w) X.A (noteFrame (.ref a) X.env) (λ_ s2=>wpAny (model X.prog X.w) X.A (setFlight (.ref a) none) (λ_ s3=>wpAny (model X.prog X.w) X.A (handleBy (.ref a) X.env [h0]) (SP X af E) X.xe s3) X.xe s2) X.xe s'
   |o=>nO X H0 S au U E o) :
  wpAny (model X.prog X.w) X.A (exec (.Try body [h0] [] [] pos) X.env) (SP X af E) X.xe s:=by
 refine wpAny_Try_except ?_;let#[tb,pb,sb]:=hb af (λcls aS aB H'=>∀a s',gz X af aB H' a cls aS s'->
    wpAny (model X.prog X.w) X.A (noteFrame (.ref a) X.env) (λ_ s2=>wpAny (model X.prog X.w) X.A (setFlight (.ref a) none) (λ_ s3=>wpAny (model X.prog X.w) X.A (handleBy (.ref a) X.env [h0]) (SP X af E) X.xe s3) X.xe s2) X.xe s')
 have xj:tb E U H:=by
  refine sb ok hf ?_;cases o1 with
  |nx Y'=>apply k
  |rt d=>apply k
  |bk Y'=>apply k
  |ct Y'=>apply k
  |er raw cn Y'=>
   cases raw with
   |true=>apply False.elim k
   |false=>apply#[_,Vr,λz' aB H' C bg kp hC a s' L=>k z' aB H' C a s' bg kp hC L]
 refine aeo (pb [] s U H E I.kF xj) (λfl s1 q=>?_) (λev s1 q=>?_)
 .have q':=abE q;cases fl with
  |next=>apply aiN q'
  |brk=>apply q'
  |cont=>apply q'
  |ret u=>apply q'
 .let#[aB,H',a,cls,aS,rfl,L,r]:=q;apply r a s1 L
def X8(i:Nat)(hb:∀af R,FS (X.kF af R) body f)(hs:∀a,FS (X.nq a) (b0::E5) g)(YZ:∀cn C,sub cn=true->PySem.W.nsIn X.K mainGlobals cn=some (some (.ref C))->w_ X.K C Dc)(hm:X.mg x=some (.ref Dc))(hN:X.N.Nodup)
  (hcm:X.calm=true:=by rfl) (hx:X.ex=[]:=by rfl) (eE:X.stack=X.env::X.outer:=by rfl) (pZ:X.env.frame=some X.env.locals:=by rfl) (hg:Gl X x:=by rfl) (hi:X.N[i]? = some n:=by rfl) (hk:X.env.scope.names.lookup n=some .local:=by rfl) (mT:lK X n=false:=by rfl) (eU:(x==("__debug__":Str))=false:=by decide) :
  fL X (.Try body [.ExceptHandler (some (.Name x px)) (some n) (b0::E5) aip] [] [] pos) (Lb i sub f g):=by
 exists 23,Av;intro af s I;unfold Lb at e;cases hf:f Y with
 |none=>rw[hf] at e;ext e
 |some o1=>
  rw[hf] at e;refine XY hb I ok hf ?_;cases o1 with
  |nx Y'=>ext e;apply k
  |rt d=>ext e;apply k
  |bk Y'=>ext e;apply k
  |ct Y'=>ext e;apply k
  |er raw cn Y'=>
   cases raw with
   |true=>ext e
   |false=>
    dsimp only at e ⊢
    by_cases BE:sub cn.1=true
    .rw[if_pos BE] at e;intro z' aB H' C a s' bg kp hC L;refine agK L hcm hx eE pZ (YZ cn.1 C BE hC) hg hm hN hi hk (λs5 H5 kn I5=>?_) eU;let#[ts,ps',ss]:=hs a;refine ps' af s5 _ _ _ I5 ?_;have sm:aI H' H5:=λb o q=>kn.same L.fr q
     refine bg.stored (i:=i) (t:=.own) sm (abF hC kn) .nil λz5 xu=>?_
     have xu:=xu;have jc:∀{jo},Kp X (aB.set i (some (.ref a))) jo->Kp X U (jo.set i none):=λ{jo} b=>((kp.trans (.set hi mT)).trans b).trans (.set hi mT)
     cases se:g (Y'.set i (some (.exc cn,.own))) with
     |none=>rw[se] at e;ext e
     |some o2=>
      rw[se] at e;refine ss xu se ?_;cases o2 with
      |nx bI=>ext e;apply λz6 jo H6 zQ b=>k z6 _ H6 (zQ.unset i) (jc b)
      |bk bI=>ext e;apply λz6 jo H6 zQ b=>k z6 _ H6 (zQ.unset i) (jc b)
      |ct bI=>ext e;apply λz6 jo H6 zQ b=>k z6 _ H6 (zQ.unset i) (jc b)
      |rt d=>ext e;apply k
      |er _ _ _=>ext e
    .rw[abo BE] at e;ext e
inductive Rz where
 |ok (d:D)|er (cn:XN)
def sI(K:Fr)(F:List D->Option Rz):Sp:=λvs H Q E=>∃ds fp r,aE K H ds vs fp/\F ds=some r/\match r with
 |.ok d=>∀H' v gZ,aI H H'->Rep K H' d v gZ->gZ.Nodup->(∀a∈gZ,H a=none)->Q v H'
 |.er cn=>∀H' C,aI H H'->PySem.W.nsIn K mainGlobals cn.1=some (some (.ref C))->E (.ref C) cn.2 H'
def rq(n N:Nat)(b:SF):List D->Option Rz:=λds=>if ds.length=n then(match b (xK N ds) with
 |some (.rt d)=>some (.ok d)
 |some (.nx _)=>some (.ok .aC)
 |some (.er _ cn _)=>some (.er cn)
 |_=>none) else none
section
variable{K:Fr}
def U4{x qual:Str}{st:Stmt}{f:Addr}{fd:FuncData}{N ps:List Str}{k:Nat}{b:SF}(F:iR K x qual st f fd)(S:mY N ps (c8 st))(tX:ps.length<=N.length)
  (hb:∀(aV) (A) (outer) (s) (H) (E),bx k (A.deeper (envOfC qual (c8 st) s.heap.objs.size f aV))->FS (g_ (iP P w) P w K mg base N qual (c8 st) f aV A outer s H E) (iz st) b) :
  b_ P w K mg base (iP P w) (k+1) f fd ps (sI K (rq ps.length N.length b)):=by
 have tW:∀{ds} {r},rq ps.length N.length b ds=some r->ds.length=ps.length:=λ{ds d} e=>by
  unfold rq at e
  by_cases h:ds.length=ps.length
  .exact h
  .rw[abo h] at e;ext e
 let#[oc,od,kV,doc,pm,an,aV,ct,qW,rfl,lk,iD]:=F.ex;refine NX lk iD S (λvs H Q E #[ds,fp,r,rs,e,_]=>by rw[<- rs.length];apply tW e) λA outer s H vs Q E hr #[ds,fp,r,rs,e,q]=>?_
 let#[t,p,sd]:=hb aV A outer s H E hr;refine#[t,p,?_];have hl:=tW e;let#[z,ok]:=Ok.kh .nil .nil rs λ_ _ m=>nomatch m
 unfold rq at e;rw[if_pos hl] at e;cases ho:b (xK N.length ds) with
 |none=>rw[ho] at e;ext e
 |some o=>
  rw[ho] at e;refine sd ok ho ?_;cases o with
  |rt d'=>
   ext e;apply λH' v gZ en r nd fr=>q H' v gZ (λa o e=>en a o e (λm=>nomatch m)) r nd λa m=>(fr a m).resolve_right λm=>nomatch m
  |nx Y'=>
   ext e;apply λz' aB H' bg _=>q H' .aC [] (λa o e=>bg.en a o e (λm=>nomatch m)) .aC ac6 λa m=>nomatch m
  |bk _=>ext e
  |ct _=>ext e
  |er raw cn Y'=>
   ext e;cases raw with
   |true=>apply#[_,aaa,λz' aB H' C bg _ hC=>q H' C (λa o e=>bg.en a o e (λm=>nomatch m)) hC]
   |false=>apply#[_,aaJ,λz' aB H' C bg _ hC=>q H' C (λa o e=>bg.en a o e (λm=>nomatch m)) hC]
end
def Dq(F:List D->Option Rz)(g:AF):XR:=λY=>match g Y with
 |some ps=>match F (ps.map (·.1)) with
  |some (.ok d)=>some (.ok d Y)
  |some (.er cn)=>some (.er cn Y)
  |none=>none
 |none=>none
def aau(GG:b_ X.prog X.w X.K X.mg X.base (iP X.prog X.w) k f fd ps (sI X.K F))(hr:bx k X.A)(hm:X.mg x=some (.ref f))(hk:PySem.W.keepIn X.K (.ref f)=true)(hb:Binds X.K fd ps [])(ha:FA X.i7 (e::es) g)
  (hx:X.ex=[]:=by rfl) (hg:GD X x:=by apply#[rfl,by decide])
  (he:SE X e es pos:=by apply#[rfl,rfl]):FE X (.Call (.Name x p) (e::es) [] pos) (Dq F g):=by
 let#[t,pa,_,sa]:=ha;refine#[_,abn GG hr hx hg.1 hm hk hb .nil pa hg.2 he.1 he.2,@λH0 S z au Y U H Q E r ok e0 q=>?_];unfold Dq at e0;cases h1:g Y with
 |none=>rw[h1] at e0;ext e0
 |some qs=>
  rw[h1] at e0;dsimp only at e0;cases h2:F (qs.map (·.1)) with
  |none=>rw[h2] at e0;ext e0
  |some r1=>
   rw[h2] at e0;refine sa ok h1 λH1 vs fp s1 r2 _=>?_
   rw[acw];cases r1 with
   |ok d=>
    ext e0;apply#[_,fp,_,r2,h2,λH2 v gZ s2 r2 nd fr=>q z H1 H2 v gZ (ok.same s1) s2 r2 #[nd,fr]]
   |er en=>
    ext e0;apply#[_,fp,_,r2,h2,λH2 C s2 hC=>q z H2 C ((ok.same s1).same s2) hC]
def ur(T:List (Str×Bool)):D->Option D
 |.exc cn=>(T.lookup cn.1).map .bl
 |_=>none
def B5(K:Fr)(T:List (Str×Bool))(c:Value):Prop:=∀cn b C,T.lookup cn=some b->PySem.W.nsIn K mainGlobals cn=some (some (.ref C))->nu K C/\PySem.W.kitOne K (.ref C) c=some b
def Uj{cv:Value}{c:V}{tc:TE}(hc:∀u,RelV c u->u=cv)(hT:B5 X.K T cv)(hm:X.mg "isinstance"=none)(ha:FP X a fa)(pc:PE X (.Name x p2) (λ_ H Q=>Q c H))(hg:Gl X "isinstance":=by rfl)
  (hs:starEach [a,.Name x p2] X.env=[(false,eval a X.env),(false,eval (.Name x p2) X.env)]:=by rfl) (hpl:(backTo pos (starEach [.Name x p2] X.env)).any (·.1)=false:=by rfl):FP X (.Call (.Name "isinstance" p) [a,.Name x p2] [] pos) (e1 (ur T) fa):=by
 let#[ta,pa,sa]:=ha;have ck:starEach [.Name x p2] X.env=[(false,eval (.Name x p2) X.env)]:=rfl;exists 21,o9 adx hg hm (show bootBuiltins "isinstance"=some (.builtin "isinstance") by decide +kernel) (cV pa (cV pc fq) (by rw[hs,ck])) (he:=by rw[hs,ck]);let#[d1,t1,h1,h2,rfl]:=ng e;refine sa ok h1 λH1 v fp s1 r1 _=>?_
 unfold ur at h2
 split at h2
 .rename_i cn;cases hl:T.lookup cn.1 with
  |none=>rw[hl] at h2;ext h2
  |some b=>
   rw[hl] at h2;ext h2;cases r1 with
   | @exc _ a' C de ob hn ho _=>
    let#[kk,ke]:=hT cn.1 b C hl hn;apply#[a',C,c,cv,b,de,ob,rfl,hc,ho,kk,ke,k H1 _ [] s1 (.bl _) .nil]
 .cases h2
def aha{C:Addr}(hT:B5 X.K T (.ref C))(hm:X.mg "isinstance"=none)(Iq:X.mg x=some (.ref C))(ha:FP X a fa)(hg:Gl X "isinstance":=by rfl)(Bh:GD X x:=by apply#[rfl,by decide])
  (hs:starEach [a,.Name x p2] X.env=[(false,eval a X.env),(false,eval (.Name x p2) X.env)]:=by rfl) (hpl:(backTo pos (starEach [.Name x p2] X.env)).any (·.1)=false:=by rfl):FP X (.Call (.Name "isinstance" p) [a,.Name x p2] [] pos) (e1 (ur T) fa):=
 Uj (tc:=λ_ H Q=>Q (.ref C) H) (c:=.ref C) (λu r=>r) hT hm ha (Am Bh.1 Iq Bh.2) hg hs hpl
def ab7{B:String}(hT:B5 X.K T (.type B))(hm:X.mg "isinstance"=none)(Iq:X.mg x=none)(ha:FP X a fa)(sG:bootBuiltins x=some (.type B):=by decide +kernel)(hg:Gl X "isinstance":=by rfl)(Bh:Gl X x:=by rfl)(hn:x≠"__name__":=by decide)(eU:(x==("__debug__":Str))=false:=by decide)
  (hs:starEach [a,.Name x p2] X.env=[(false,eval a X.env),(false,eval (.Name x p2) X.env)]:=by rfl) (hpl:(backTo pos (starEach [.Name x p2] X.env)).any (·.1)=false:=by rfl):FP X (.Call (.Name "isinstance" p) [a,.Name x p2] [] pos) (e1 (ur T) fa):=
 Uj (tc:=λ_ H Q=>Q (.ty B) H) (c:=.ty B) (λu r=>r) hT hm ha (z7 Bh Iq sG rfl hn eU) hg hs hpl
def kU:List D->Option (List Str)
 |[]=>some []
 |.str x::r=>(kU r).map λm=>x::m
 |_::_=>none
theorem zJ{K:Fr}:∀{ds} {xs} {fp} {ys},aE K H ds xs fp->kU ds=some ys->xs=ys.map V.str
 |_,_,_,_,.nil,e=>by ext e;rfl
 |_,_,_,ys,.cons (d:=d) h t,e=>by
  cases d with
  |str x=>
   unfold kU at e;cases q:kU _ with
   |none=>rw[q] at e;ext e
   |some m=>
    rw[q] at e;ext e;ext h;rw[zJ t q];rfl
  |_=>ext e
theorem Ut:∀ys:List Str,kU (ys.map D.str)=some ys
 |[]=>rfl
 |y::ys=>by
  show(kU (ys.map D.str)).map (λm=>y::m)=_;rw[Ut ys];rfl
theorem Nf:∀{ys} {us},aR (ys.map V.str) us->StrsAre us ys
 |[],_,r=>by ext r;apply .nil
 |y::ys,_,r=>by
  cases r with
  |cons h t=>
   let#[tk,rfl]:=h;apply .cons y tk (Nf t)
def iV(k:Str)(ys:List Str):Nat:=ys.countP (· == k)
theorem count_eq(k:Str):∀ys:List Str,countIn (.str k) (ys.map PyData.str)=(iV k ys:Int)
 |[]=>rfl
 |y::ys=>by
  rw[aaB,countIn,count_eq k ys];unfold iV;rw[List.countP_cons];have e:same (.str y) (.str k)=(y==k):=by simp[same]
  rw[e];cases h:(y==k)
  .simp
  .simp;omega
def ac5(K:Fr):V->List V->Hp->VK->Prop:=λx vs H Q=>∃(l:Addr) (ys:List Str) (k:Str),x=.ref l/\vs=[.str k]/\bY K H l (ys.map V.str)/\Q (.int (iV k ys)) H
def adL{X:Cx}:F6 X "list.count" (ac5 X.K):=by
 intro af s U H x vs v us Q I rx rv h;let#[l,ys,k,rfl,rfl,hH,q]:=h;ext rx;let#[u,rfl,ru]:=rv.one;let#[t,rfl]:=ru;let#[ay,r,pl,hz]:=I.list hH;refine count_list_strs pl.isList (Nf r) ?_;rw[count_eq];apply#[.int (iV k ys),H,I.tok _,#[_,rfl],q]
def AM:D->D->Option D
 |.lst ds,.str k=>(kU ds).map λys=>.int (iV k ys)
 |_,_=>none
def QV(ho:FP X o fo)(ha:FP X a fa)(hs:starEach [a] X.env=[(false,eval a X.env)]:=by rfl)(kQ:attributeBase o "count" X.env (eval o X.env)=eval o X.env:=by rfl)
  (kR:((backTo p3 (starEach [a] X.env)).all (λx=>!x.1)&&(backToKw p3 (keywordEach [] X.env)).all (λx=>x.1.isSome)&&decide ([a].length+([]:List Keyword).length+(if([]:List Keyword).isEmpty then 0 else 1)<30))=true:=by rfl)
  (kT:(p2.endLine==p3.line)=true:=by rfl):FP X (.Call (.Attribute o "count" p2) [a] [] p3) (e2 AM fo fa):=by
 let#[to,po,so]:=ho;let#[ta,pa,sa]:=ha;refine#[_,wo PySem.F.plainAttrs_list PySem.F.slot_list_count PySem.F.type_list_count adL po (cV pa fq hs) kQ kR kT hs rfl,@λH0 S z au Y U H Q dd tg ok e k=>?_];let#[d1,t1,d2,t2,e1,d7,e3,rfl]:=rD e;unfold AM at e3
 split at e3
 .rename_i ds ky;cases hS:kU ds with
  |none=>rw[hS] at e3;ext e3
  |some ys=>
   rw[hS] at e3;ext e3;refine so ok e1 λH1 v fp s1 r1 _=>?_
   let#[l,xs,f,rfl,hq,rs,_]:=r1.d_;have ex:=zJ rs hS;subst ex;refine#[.inl #[rfl,_,hq],?_];refine sa (ok.same s1) d7 λH2 u nR s2 r2 _=>?_
   ext r2;let#[l',WR,f',e',hq2,yt,_]:=(r1.same s2).d_;ext e';have ex:=zJ yt hS;subst ex;apply#[l,ys,ky,rfl,rfl,hq2,k H2 _ [] (s1.trans s2) (.int _) .nil]
 .cases e3
def A0(K:Fr)(t:Addr)(ys:List Str):Prop:=∃(o:Obj) (ay:Array Value) (n:Nat),K.lookup t=some o/\o.cls=.type "tuple"/\o.dict=none/\o.data=.seq ay n/\ay.size<=sizeLine/\aR (ys.map V.str) ay.toList
theorem PV{K:Fr}:∀ys:List Str,aE K H (ys.map D.str) (ys.map V.str) []
 |[]=>.nil
 |y::ys=>.cons (.str y) (PV ys)
def ah2(hm:X.mg x=some (.ref t))(ht:A0 X.K t ys)(hg:GD X x:=by apply#[rfl,by decide]):FP X (.Name x pos) (eC (.tup (ys.map D.str))):=
 #[_,QI hg.1 hm (v:=.ref t) rfl hg.2,@λ_ _ _ _ _ _ H _ _ _ _ e q=>by ext e;apply q H _ _ (aI.refl H) (.tup (.inr ht) (PV ys)) .nil]
def uQ(neg:Bool):D->D->Option D
 |.str i,.lst ds=>(kU ds).map λns=>.bl (if neg=true then !(ns.any (· == i)) else ns.any (· == i))
 |.str i,.tup ds=>(kU ds).map λns=>.bl (if neg=true then !(ns.any (· == i)) else ns.any (· == i))
 |_,_=>none
def LS(i:Str)(ns:List Str):uA (.str i) (ns.map V.str)=ns.any (· == i):=by
 unfold uA;rw[aiq];rfl
def SH(ns:List Str):(ns.map V.str).all nU=true:=by
 rw[aiM];apply aei.mpr λ_ _=>rfl
def Oo{K:Fr}{neg:Bool}:gK K (AB K neg) (uQ neg):=by
 intro H x y d1 d2 f1 f2 d Q r1 r2 e k;unfold uQ at e
 split at e
 .rename_i i ds;cases hS:kU ds with
  |none=>rw[hS] at e;ext e
  |some ys=>
   rw[hS] at e;ext e;ext r1;let#[l,xs,f,rfl,hq,rs,_]:=r2.d_;have ex:=zJ rs hS;subst ex;refine#[l,_,rfl,.inl hq,rfl,SH ys,?_];rw[LS];apply k H _ (aI.refl H) (.bl _)
 .rename_i i ds;cases hS:kU ds with
  |none=>rw[hS] at e;ext e
  |some ys=>
   rw[hS] at e;ext e;ext r1;cases r2 with
   |tup hq rs=>
    have ex:=zJ rs hS;subst ex;refine#[_,_,rfl,.inr hq,rfl,SH ys,?_];rw[LS];apply k H _ (aI.refl H) (.bl _)
 .cases e
def aax(ha:FP X a fa)(hb:FP X b fb)(hm:behindInMarks .In b=false:=by rfl):FT X (.Compare a [.In] [b] pos) (tV (e2 (uQ false) fa fb)):=jJ Ua Oo ha hb hm
def Wx(ha:FP X a fa)(hb:FP X b fb)(hm:behindInMarks .NotIn b=false:=by rfl):FT X (.Compare a [.NotIn] [b] pos) (tV (e2 (uQ true) fa fb)):=jJ Jt Oo ha hb hm
end L2.Ev
namespace L2.Ev
open PySem PySem.W
def RY(q:xD K C=true):∃N bm,sF K C N bm "ValueError.__new__"/\nsOkIn K N=true/\nsIn K N "__init__"=some none/\tailIn K R1 bm=true:=by
 unfold xD at q;cases h:K.lookup C with
 |none=>rw[h] at q;ext q
 |some o=>
  let#[c,dd,da,#[sl]]:=o;rw[h] at q;ext da<;>try ext q
  rename_i cd;simp only[aaV,ahp] at q;let#[#[#[#[#[#[h1,h2],h3],h4],h5],h6],h7]:=q;let#[nm,bs,mro,ns,qn,hd,sn,sub,ab,col,del]:=cd;ext h4;dsimp only at h2;rw[h1,h2,h3] at h;apply#[ns,_,#[h],h6,h7,h5]
def abT(q:xD K C=true):Bp K C:=by
 let#[N,bm,h]:=RY q;apply#[#[_,_,_,_,bm,N,PySem.F.excBase_ValueError,h]]
def Shape(K:Frag)(C:Addr):Prop:=∃N bm i,sF K C N bm i
def LB(q:xD K C=true):Shape K C:=by
 let#[N,bm,h,_]:=RY q;apply#[N,bm,_,h]
def OO(h:sF K C N bm i)(m:mroIn K C v=some true):(Value.ref C::bm).contains v=true:=by
 let#[h]:=h;unfold mroIn clsIn at m;rw[h] at m;dsimp only at m;rw[adG,abo (by simp)] at m;apply ach m
def Wq{C D:Addr}(hC:Shape K C)(hD:Shape K D)(m:mroIn K C (.ref D)=some true)(b:mroIn K D (.type "BaseException")=some true):w_ K C D:=by
 let#[N,bm,i,h1]:=hC;let#[N',r_,i',h2]:=hD;refine#[N,bm,i,N',r_,i',h1,h2,?_,OO h1 m];have:=OO h2 b;rw[List.contains_cons] at this;rcases(aiR _ _).mp this with q|q
 .cases ahp.mp q
 .exact q
def ahT(names:List Str):Str->Bool:=λcn=>names.contains cn
def VZ(K:Frag)(names:List Str)(Dc:Addr):Prop:=∀cn C,ahT names cn=true->nsIn K mainGlobals cn=some (some (.ref C))->w_ K C Dc
def abp(hl:ds.length=n)(h:b (xK N ds)=some (.er raw cn Y)):rq n N b ds=some (.er cn):=by unfold rq;rw[if_pos hl,h]
def V6(m:mroIn K C v=some b):(clsIn K C).isSome=true:=by
 unfold mroIn at m;cases h:clsIn K C with
 |none=>rw[h] at m;ext m
 |some _=>rfl
end L2.Ev
namespace L2
open PySem PySem.Spec PyProof.Rows
def ZY(h:PE X.i7 e t):PX X e (λU H Q _=>t U H Q):=λaf s U H Q E I hw=>
 aeo (h af s U H Q (I.k_ _) hw) (λ_ _ #[v,H',I',r,q]=>#[v,H',I'.nX,r,q]) λ_ _ z=>False.elim z
end L2
namespace L2.Ev
open PySem PySem.Spec PyProof.Rows
def BQ(fa fh:EF):EF:=λY=>match fa Y,fh Y with
 |some (.lst ds,_),some (.int i,_)=>if aP ds=true then some (.lst (cutD ds (some i) none),.own) else none
 |_,_=>none
def aas(ha:FP X a fa)(hh:FP X b fh):FP X (.Subscript a (.Slice (some b) none none p2) pos) (BQ fa fh):=by
 let#[t,p,q]:=ha;let#[th,ph,qh]:=hh;exists 21,E4 Js p (JT ph) HN;unfold BQ at e
 split at e
 .rename_i ds t1 i t2 e1 e2;let#[hi,e]:=ci e;ext e;refine q ok e1 λH1 x f1 s1 r1 _=>?_
  refine qh (ok.same s1) e2 λH2 y f2 s2 r2 _=>?_
  ext r2;refine#[i,rfl,?_];let#[w,xs,f,rfl,hq,rs,_]:=(r1.same s2).d_;have hn:=rs.aH hi;subst hn;refine#[w,xs,rfl,hq,λp hp=>?_];have s3:aI H2 (upd H2 p (.lst (lN xs (some i) none))):=λb o e=>by rw[aN (cX e hp)];apply e
  have rr:aE X.K H2 (cutD ds (some i) none) (lN xs (some i) none) []:=by
   unfold cutD lN;rw[rs.length];apply aE.BR _ (aE.Bg _ rs)
  refine k _ _ [p] ((s1.trans s2).trans s3) (.lst bX (rr.same s3)) #[ab6.mpr #[(λm=>by ext m),ac6],λa m=>?_];cases aav.mp m;apply s1.free (s2.free hp)
 .cases e
def vq(X:Cx)(e:Expr)(f:aU->Option (Bool×aU)):Prop:=∃t,PT X e t/\∀{H0} {S} {z} {au} {Y} {U} {H} {Q} {b} {Y'},
 Ok X.K H0 S z au Y U H->f Y=some (b,Y')->(∀z' H',Ok X.K H0 S z' au Y' U H'->Q b H')->t U H Q
def CU(fx:XF)(fb:EF):aU->Option (Bool×aU):=λY=>match fx Y with
 |some (d1,Y')=>match fb Y' with
  |some (d2,_)=>match k9 d1 d2 with
   |some (.bl b)=>some (b,Y')
   |_=>none
  |none=>none
 |none=>none
def yW(c:aU->Option (Bool×aU))(f g:SF):SF:=λY=>match c Y with
 |some (true,Y')=>f Y'
 |some (false,Y')=>g Y'
 |none=>none
def QO(ha:FZ X a fx)(hb:FP X b fb):vq X (.Compare a [.NotEq] [b] pos) (CU fx fb):=by
 let#[ta,pa,sa]:=ha;let#[tb,pb,sb]:=hb;refine#[_,S_ P1 pa pb (jr _),@λH0 S z au Y U H Q c Y' ok e k=>?_];unfold CU at e;cases h1:fx Y with
 |none=>rw[h1] at e;ext e
 |some w=>
  let#[d1,bf]:=w;rw[h1] at e;dsimp only at e;cases h2:fb bf with
  |none=>rw[h2] at e;ext e
  |some w2=>
   let#[d2,t2]:=w2;rw[h2] at e;dsimp only at e
   split at e
   .rename_i bb h3;ext e;refine sa ok h1 λz1 H1 x cg r1=>?_
    refine sb cg h2 λH2 y f2 s2 r2 _=>?_
    refine Qh H2 x y d1 d2 [] f2 _ _ (r1.same s2) r2 h3 λH3 v s3 r3=>?_
    ext r3;apply#[_,rfl,k z1 H3 ((cg.same s2).same s3)]
   .cases e
def Pw(hc:vq X c tc)(ha:FS X s1 f)(hb:FS X s2 g):fL X (.If c s1 s2 pos) (yW tc f g):=by
 let#[t,p,q]:=hc;let#[t1,p1,q1]:=ha;let#[t2,p2,q2]:=hb;exists 23,ID p p1 p2;unfold yW at e;cases h:tc Y with
 |none=>rw[h] at e;ext e
 |some w=>
  let#[y,bf]:=w;rw[h] at e;refine q ok h λz1 H1 cg=>?_
  cases y with
  |true=>rw[if_pos rfl];apply q1 cg e k
  |false=>rw[abo aa2];apply q2 cg e k
def ahG{n:Int}(h:n.natAbs<2 ^ 64):n.natAbs.log2<1920:=by
 rcases Nat.eq_zero_or_pos n.natAbs with z|z
 .rw[z];decide
 .exact ac9 ((Nat.log2_lt (by omega)).mpr h) (by decide)
section
variable(P:Program)(w:World)(K:Fr)(mg:Str->Option Value)(base:Heap)(CX:qE)(k:Nat)
def FN(x:Str)(ps:List Str)(sp:Sp)(cm:Bool:=true):Prop:=∃a fd,b_ P w K mg base CX k a fd ps sp cm/\mg x=some (.ref a)/\PySem.W.keepIn K (.ref a)=true/\Binds K fd ps []
def MT(C:Addr)(x:Str)(ps:List Str)(sp:Sp)(cm:Bool:=true):Prop:=∃a fd,b_ P w K mg base CX k a fd ps sp cm/\Binds K fd ps []/\mE K C x a
def MI(C:Addr)(ps:List Str)(sp:Sp)(cm:Bool:=true):Prop:=∃a fd,b_ P w K mg base CX k a fd ps sp cm/\Binds K fd ps []/\Mk K C a
end
def GL(K:Fr)(x q:Str)(st:Stmt)(f:Addr):Prop:=∃oc od kV dc pm an cd ct sl,K.lookup f=some #[oc,od,.func (PySem.W.fnOf x q (lP st) (iz st) (c8 st) .none kV dc pm an cd ct),sl]/\PySem.W.codeIn K cd q=true/\PySem.W.keepIn K (.ref f)=true
def Bx(K:Fr)(x:Str)(st:Stmt):Prop:=∃f,PySem.W.nsIn K mainGlobals x=some (some (.ref f))/\GL K x x st f
def GM(K:Fr)(C:Addr)(x q:Str)(st:Stmt):Prop:=∃f,PySem.W.findIn K (.ref C) x=some (some (.ref f))/\PySem.W.isFn K (.ref f)=true/\GL K x q st f
abbrev BA(x q:Str)(st:Stmt)(ps:List Str):Prop:=∀(kV doc pm) (an) (aV ct) (us),us.length=ps.length->bindArgs (PySem.W.fnOf x q (lP st) (iz st) (c8 st) .none kV doc pm an aV ct) #[us,[]]=pure (ps.zip us)
def Cd{K:Fr}{x q:Str}{st:Stmt}{f:Addr}(l:GL K x q st f):PySem.W.keepIn K (.ref f)=true/\∃fd,iR K x q st f fd:=by
 let#[oc,od,kV,dc,pm,an,cd,ct,sl,h1,h2,h3]:=l;apply#[h3,_,Si h1 h2 h3]
section
variable{K:Fr}{st:Stmt}
def Ro(X:K.In h)(G:h.Ns mainGlobals mg)(l:Bx K x st)(ok:∀{f} {fd},iR K x x st f fd->b_ P w K mg base CX k f fd ps sp cm)(b:BA x x st ps):FN P w K mg base CX k x ps sp cm:=by
 let#[f,a,l]:=l;let#[kp,fd,F]:=Cd l;apply#[f,fd,ok F,PySem.W.mg_of X G a,kp,F.binds b]
def mtW(l:GM K C x q st)(ok:∀{f} {fd},iR K x q st f fd->b_ P w K mg base CX k f fd ps sp cm)(b:BA x q st ps):MT P w K mg base CX k C x ps sp cm:=by
 let#[f,a,i,l]:=l;let#[kp,fd,F]:=Cd l;apply#[f,fd,ok F,F.binds b,#[a,i,kp]]
def Zs{sp:Heap->Sp}(X:K.In h)(G:h.Ns mainGlobals mg)(DB:mg "law"=some (.ref fa))(l:Bx K "law" st)
  (b:∀(kV doc pm) (an) (aV ct) (s) (v),BindsTo s (PySem.W.fnOf "law" "law" (lP st) (iz st) (c8 st) .none kV doc pm an aV ct) #[[v],[]] [(p,v)])
  (ok:∀base:Heap,K.In base->base.Ns mainGlobals mg->∀{f} {fd},iR K "law" "law" st f fd->b_ P w K mg base CX k f fd [p] (sp base) cm) :
  ∃fd:FuncData,(∀(s) (v),BindsTo s fd #[[v],[]] [(p,v)])/\∀base:Heap,K.In base->base.Ns mainGlobals mg->b_ P w K mg base CX k fa fd [p] (sp base) cm:=by
 let#[f,a,oc,od,kV,dc,pm,an,cd,ct,sl,h1,h2,h3]:=l;have e:=DB.symm.trans (PySem.W.mg_of X G a);ext e;apply#[_,b kV dc pm an cd ct,λbase K1 G1=>ok base K1 G1 (Si h1 h2 h3)]
end
def jx(h1:g d t Y=some bf)(h2:f bf=some (.nx bI)):dD g t f (d::ds) Y=dD g t f ds bI:=by
 conv=>lhs;unfold dD
 rw[h1];dsimp only;rw[h2]
def Nu(h1:g d t Y=some bf)(h2:f bf=some (.rt r)):dD g t f (d::ds) Y=some (.rt r):=by
 unfold dD;rw[h1];dsimp only;rw[h2]
end L2.Ev
namespace L2
open PySem PySem.Spec PyProof.Rows
def Inv.freeze(I:Inv X af U H s)(h:H a=some (.lst xs)):∃o,Inv X af U (upd H a (.dZ o (.lst xs))) s:=by
 let#[hz,ay,n,rv,ho]:=I.aG a _ h;have ne:∀{b} {o},H b=some o->(∀xs,o≠.lst xs)->b≠a:=λ{b o} q n z=>by rw[z,h] at q;ext q;apply n _ rfl
 have nn:∀{b},H b=none->b≠a:=λ{b} q z=>by rw[z,h] at q;ext q
 refine#[{ cls:=.type "list",data:=.seq ay.toArray n },I.ok,I.os,I.bare,#[I.base.keep,I.base.slot,λb o q n hx=>?_,I.base.there,λb xs q=>?_,λb o u q=>?_,λb ps q=>?_],I.loc,I.cell,?_,λx c q=>?_,λp hp=>?_,λb o q=>?_,I.len,I.hq.mono (λb o u q=>by rw[aN (ne q λ_=>by simp)];apply q) λb t q=>by rw[aN (ne q λ_=>by ext t<;>intro z<;>ext z)];apply q]
 .have w:=I.base.free b o q n hx;rw[aN (nn w)];apply w
 .have w:=I.base.jw b xs q;rw[aN (ne w λ_=>by ext xs<;>intro z<;>ext z)];apply w
 .have w:=I.base.jh b o u q;rw[aN (ne w λ_=>by simp)];apply w
 .let#[more,w]:=I.base.jU b ps q;apply#[more,by rw[aN (ne w λ_=>by simp)];apply w]
 .rw[aN (nn I.free)];apply I.free
 .have w:=I.gU x c q;rw[aN (nn w)];apply w
 .let#[p1,p2,p3]:=I.pin p hp;apply#[p1,by rw[aN (nn p2)];apply p2,p3]
 .by_cases z:b=a
  .subst z;rw[bX] at q;ext q;apply#[ho,hz,ay,n,rv,ho]
  .rw[aN z] at q;apply(I.aG b o q).gH (λ_ _ _ q=>q) (λc q=>by rw[aN (ne q λ_=>by simp)];apply q) λc xs q=>by rw[aN (ne q λ_=>by ext xs<;>intro z<;>ext z)];apply q
def aaz(t:TE):TE:=λU H Q=>t U H λx H1=>∃a xs,x=.ref a/\H1 a=some (.lst xs)/\∀o,Q x (upd H1 a (.dZ o (.lst xs)))
def MW(h:PE X e t):PE X e (aaz t):=λaf s U H Q I hw=>
 cQ (h af s U H _ I hw) λu s1 #[x,H1,I1,r,a,xs,e1,ha,q]=>by
  let#[o,J]:=I1.freeze ha;apply#[x,_,J,r,q o]
def Zn(x:Str)(te:TE):TE:=λU H Q=>te U H λv H1=>∃n:Int,v=.int n/\n.natAbs.log2<1920/\Q (.str (Str.empty++x++Str.ofString (toString n))) H1
def ZH(hx:x.length<=1000)(he:PE X e te):PE X (.JoinedStr [.Constant (.str x) j p1,.FormattedValue e (-1) none p2] p3) (Zn x te):=by
 intro af s U H Q I h;have l0:(Str.empty++x).length=x.length:=by rw[strLen_append];show 0+_=_;omega
 refine JoinedStr_many (joinParts_cons (Calls.Constant_str #[by rw[l0,aga];omega,?_]));refine joinParts_cons (FormattedValue_plain (BU (he af _ U H _ (I.tok _) h) λu s1 v H1 I1 r q=>?_));let#[n,e1,e2,q]:=q;subst e1;let#[t,rfl]:=r;have l1:=int_text_length_le (by decide) e2;have l2:(Str.empty++x++Str.ofString (toString n)).length<=sizeLine:=by
  rw[strLen_append,l0,PySem.ofString_length,aga];omega
 refine formatField_int_small e2 #[l2,?_];apply joinParts_nil #[.str _,H1,I1.tok _,#[_,rfl],q] l2
namespace Ev
def A7(x:Str):D->Option D
 |.int n=>if n.natAbs<2 ^ 64 then some (.str (Str.empty++x++Str.ofString (toString n))) else none
 |_=>none
def ahR(hx:x.length<=1000)(h:FP X e f):FP X (.JoinedStr [.Constant (.str x) j p1,.FormattedValue e (-1) none p2] p3) (e1 (A7 x) f):=by
 let#[t,p,q]:=h;refine#[_,ZH hx p,@λH0 S z au Y U H Q d tg ok e0 k=>?_];let#[d1,t1,h1,h2,rfl]:=ng e0;unfold A7 at h2
 split at h2
 .rename_i n
  by_cases hn:n.natAbs<2 ^ 64
  .rw[if_pos hn] at h2;ext h2;refine q ok h1 λH1 v fp s1 r1 _=>?_
   ext r1;apply#[n,rfl,ahG hn,k H1 _ [] s1 (.str _) .nil]
  .rw[abo hn] at h2;ext h2
 .cases h2
def wR(f:EF):EF:=λY=>match f Y with
 |some (.lst ds,.own)=>if aP ds=true then some (.dH ds,.own) else none
 |_=>none
def MU(h:FP X e f):FP X e (wR f):=by
 let#[t,p,q]:=h;refine#[_,MW p,@λH0 S z au Y U H Q d tg ok e0 k=>?_];unfold wR at e0
 split at e0
 .rename_i ds h1
  by_cases hi:aP ds=true
  .rw[if_pos hi] at e0;ext e0;refine q ok h1 λH1 v fp s1 r1 g1=>?_
   cases r1 with
   | @lst c xs _ f' hc rs=>
    have hn:=rs.aH hi;subst hn;refine#[c,xs,rfl,hc,λo=>k _ _ [] (λb o' e'=>?_) (.uT (.inl #[o,bX]) (rs.frame (λa m=>nomatch m) (bh.upd hc rfl))) .nil];have fresh:=g1.2 c aah;rw[aN (cX e' fresh)];apply s1 _ _ e'
  .rw[abo hi] at e0;ext e0
 .cases e0
def oG(ft:TF)(fz:aU->Option (Bool×aU)):aU->Option (Bool×aU):=λY=>match ft Y with
 |some true=>fz Y
 |some false=>some (false,Y)
 |none=>none
def Sk(ha:FT X a ft)(hb:vq X b fz):vq X (.BoolOp .And [a,b] pos) (oG ft fz):=by
 let#[t,p,q]:=ha;let#[t',p',q']:=hb;refine#[_,(S1 p (Mp p')).pt,@λH0 S z au Y U H Q c Y' ok e k=>?_];unfold oG at e
 split at e
 .rename_i h1;refine q ok h1 λH1 s1=>?_
  rw[if_pos rfl];apply q' (ok.same s1) e k
 .rename_i h1;ext e;refine q ok h1 λH1 s1=>?_
  rw[abo aa2];apply k z H1 (ok.same s1)
 .cases e
end Ev
end L2
namespace L2.Ev
open PySem PySem.Spec PyProof.Rows
section
variable{X:Cx}{elts:List Expr}{tp:Pos}{a b:Expr}{fa fb:EF}{p pos:Pos}
def PZ(T:String):D->Option D
 |.tup _=>some (.bl ("tuple" == T))
 |.dH _=>some (.bl ("list" == T))
 |d=>xT T d
def T4(T:String):Prop:=∀(K:Fr) (t:String),t∈["tuple","list"]->PySem.W.kitOne K (.type t) (.type T)=some (t==T)
def agk:T4 "tuple":=by
 intro K t m;simp only[aaO,acL,aiE] at m;rcases m with rfl|rfl<;>rfl
def aaL(T:String):gI X (.builtin "isinstance") (λxs H Q=>(∃x t b,xs=[x,V.ty T]/\jD X.K H x t/\PySem.W.kitOne X.K t (.type T)=some b/\Q (.bl b) H)\/
  (∃a ys b,xs=[.ref a,V.ty T]/\cE X.K H a ys/\PySem.W.kitOne X.K (.type "tuple") (.type T)=some b/\Q (.bl b) H)\/(∃a ys b,xs=[.ref a,V.ty T]/\bY X.K H a ys/\PySem.W.kitOne X.K (.type "list") (.type T)=some b/\Q (.bl b) H)):=by
 intro af s U H xs us Q I r h;rcases h with h|⟨a,ys,bb,rfl,hq,e,q⟩|⟨a,ys,bb,rfl,hq,e,q⟩
 .exact OC T af s U H xs us Q I r h
 .let#[u,w',rfl,ru,eB]:=vals2 r;ext eB;cases(show u=Value.ref a from ru);let#[ay,_,#[o,h1,h2,_],_]:=I.tuple hq;apply PySem.W.kia_one PySem.W.kitx_tuple I.cU #[o,h1,h2] e (λz=>nomatch z) λtk=>#[.bl bb,H,I.tok tk,rfl,q]
 .let#[u,w',rfl,ru,eB]:=vals2 r;ext eB;cases(show u=Value.ref a from ru);let#[ay,_,#[o,n,h1,h2,_],_]:=I.list hq;apply PySem.W.kia_one PySem.W.kitx_list I.cU #[o,h1,h2] e (λz=>nomatch z) λtk=>#[.bl bb,H,I.tok tk,rfl,q]
def Xg{T:String}{x:Str}(hT:yi T)(Lq:T4 T)(hm:X.mg "isinstance"=none)(HP:X.mg x=none)(ha:FP X a fa)(sG:bootBuiltins x=some (.type T):=by decide +kernel)(hg:Gl X "isinstance":=by rfl)(HQ:Gl X x:=by rfl)(hn:x≠"__name__":=by decide)(eU:(x==("__debug__":Str))=false:=by decide)
  (hs:starEach [a,.Name x p2] X.env=[(false,eval a X.env),(false,eval (.Name x p2) X.env)]:=by rfl) (hpl:(backTo pos (starEach [.Name x p2] X.env)).any (·.1)=false:=by rfl):FP X (.Call (.Name "isinstance" p) [a,.Name x p2] [] pos) (e1 (PZ T) fa):=by
 let#[ta,pa,sa]:=ha;have ck:starEach [.Name x p2] X.env=[(false,eval (.Name x p2) X.env)]:=rfl;exists 21,o9 (aaL T) hg hm (show bootBuiltins "isinstance"=some (.builtin "isinstance") by decide +kernel) (cV pa (cV (z7 (v:=.ty T) HQ HP sG rfl hn eU) fq) (by rw[hs,ck])) (he:=by rw[hs,ck]) (hpl:=hpl);let#[d1,t1,h1,h2,rfl]:=ng e;refine sa ok h1 λH1 v fp s1 r1 _=>?_
 unfold PZ at h2
 split at h2
 .cases h2;let#[w,xs,rfl,hq,_]:=r1.jB;apply .inr (.inl #[w,xs,_,rfl,hq,Lq X.K "tuple" (by decide),k H1 _ [] s1 (.bl _) .nil])
 .cases h2;let#[w,xs,rfl,hq,_]:=r1.qQ;apply .inr (.inr #[w,xs,_,rfl,hq,Lq X.K "list" (by decide),k H1 _ [] s1 (.bl _) .nil])
 .unfold xT at h2;exists ht,Co d1,t,h2;ext h2;let#[ty,mem]:=r1.ty ht;apply .inl #[v,_,_,rfl,ty,hT X.K t mem,k H1 _ [] s1 (.bl _) .nil]
end
def NB(i:Nat)(cn f:Str)(fv:EF):SF:=λY=>match fv Y,Y[i]? with
 | some (.lst ls,_),some (some (.ins c es,.own))=>if c=cn then(match es.lookup f with
  |some (.lst ds)=>if(aP ls&&aP ds&&decide (ds.length+ls.length<=sizeLine))=true then some (.nx (cP Y i (.ins c (dY f (.lst (ds++ls)) es)))) else none
  |_=>none) else none
 |_,_=>none
def aco(i:Nat)(hC:ClsAt X.K cn C)(na:jd X.K C f)(hv:FP X a fv)(va:VA X i x:=by walk_at "va")(hs:starEach [a] X.env=[(false,eval a X.env)]:=by rfl)
  (hb:attributeBase (.Name x p) f X.env (eval (.Name x p) X.env)=eval (.Name x p) X.env:=by rfl)
  (kQ:attributeBase (.Attribute (.Name x p) f p1) "extend" X.env (eval (.Attribute (.Name x p) f p1) X.env)=eval (.Attribute (.Name x p) f p1) X.env:=by rfl)
  (kR:((backTo p3 (starEach [a] X.env)).all (λx=>!x.1)&&(backToKw p3 (keywordEach [] X.env)).all (λx=>x.1.isSome)&&decide ([a].length+([]:List Keyword).length+(if([]:List Keyword).isEmpty then 0 else 1)<30))=true:=by rfl)
  (kT:(p2.endLine==p3.line)=true:=by rfl) (jQ:swapsWith (.Call (.Attribute (.Attribute (.Name x p) f p1) "extend" p2) [a] [] p3) none pos.line X.env=pure false:=by rfl) :
  fL X (.Expr (.Call (.Attribute (.Attribute (.Name x p) f p1) "extend" p2) [a] [] p3) pos) (NB i cn f fv):=by
 let#[tv,mJ,sv]:=hv;exists 25,xB (wo PySem.F.plainAttrs_list PySem.F.slot_list_extend PySem.F.type_list_extend Xb (sy va.pe hb) (cV mJ fq hs) kQ kR kT hs rfl) jQ;unfold NB at e
 split at e
 .rename_i ls td c es g1 g2
  by_cases hc:c=cn
  .subst hc;rw[if_pos rfl] at e
   split at e
   .rename_i ds hl
    by_cases hc:(aP ls&&aP ds&&decide (ds.length+ls.length<=sizeLine))=true
    .rw[if_pos hc] at e;ext e;let#[c1,c3]:=(aaV _ _).mp hc;let#[c1,c2]:=(aaV _ _).mp c1;let#[xv,fp,cZ,r,zz]:=ok.sl i _ _ g2;refine#[xv,cZ,?_];let#[b0,dx,fs,u,gf,rfl,h1,h2,h3,h4,h5,h6]:=r.place hC.ns zz.1 hl;refine#[b0,C,dx,fs,u,rfl,h1,hC.cl,na,h2,?_];let#[l,xs,f0,rfl,hq,_,_]:=h3.d_;refine#[.inl #[rfl,_,hq],?_];refine sv ok g1 λH1 v fd s1 rv gv=>?_
     generalize hw:(V.ref l)=w at h3 h6;cases h3 with
     | @lst a' ys _ f' h rs=>
      ext hw;have hn:=rs.aH c2;subst hn;cases rv with
      | @lst b' zs _ f2 h' rz=>
       have hn:=rz.aH c1;subst hn;have vd:=s1 _ _ h;refine#[_,b',ys,zs,rfl,rfl,vd,h',by rw[<- rs.length,<- rz.length];apply aaK c3,?_];have im:bh H1 (upd H1 l (.lst (ys++zs))):=bh.upd vd rfl;let#[bV,k1,k2,k3]:=h6 (upd H1 l (.lst (ys++zs))) (.lst (ds++ls)) [l] ((bh.of s1).trans im) (λc o n e=>by rw[aN λq=>n (by rw[q];apply aah)];apply s1 c o e)
        (.lst bX (aE.append (f:=[]) (g:=[]) ((rs.same s1).frame (λa m=>nomatch m) im) (rz.frame (λa m=>nomatch m) im))) h4 (λc m=>.inl m)
       let#[z',bg]:=ok.put g2 cZ zz ((bh.of s1).trans im) (λc o n e=>by rw[aN λq=>n (by rw[q];apply h5 l aah)];apply s1 c o e) k1 k2 k3;apply q z' U _ bg (.refl _ _)
    .rw[abo hc] at e;ext e
   .cases e
  .rw[abo hc] at e;ext e
 .cases e
def Rb(K:Fr)(T:List (Str×Bool))(cs:List Addr):Prop:=∀cn b C,T.lookup cn=some b->PySem.W.nsIn K mainGlobals cn=some (some (.ref C))->nu K C/\PySem.W.kitAny K (.ref C) (cs.map Value.ref)=some b
theorem MX:∀{cs:List Addr} {us},aR (cs.map V.ref) us->us=cs.map Value.ref
 |[],_,.nil=>rfl
 |c::cs,_,.cons r t=>by rw[MX t];ext r;rfl
def ahW{cs:List Addr}:gI X (.builtin "isinstance") (λxs H Q=>∃a C l b de ob,xs=[V.ref a,V.ref l]/\H l=some (.tup (cs.map V.ref))/\H a=some (v8 ob a (.ref C) de)/\nu X.K C/\PySem.W.kitAny X.K (.ref C) (cs.map Value.ref)=some b/\Q (.bl b) H):=by
 intro af s U H xs us Q I r h;let#[a,C,l,bb,de,ob,rfl,hl,ha,k,e,q]:=h;let#[u,w',rfl,ru,eB]:=vals2 r;cases(show u=Value.ref a from ru);cases(show w'=Value.ref l from eB);let#[_,ay,rv,o,ho,hc,hd,n,mO]:=(show(cs.map V.ref).length<=sizeLine/\∃ay:List Value,aR (cs.map V.ref) ay/\kZ s.heap l ay.toArray from I.aG l _ hl)
 have:=MX rv;subst this;let#[cl,dd,dat,sl]:=o;ext hc;ext mO;apply PySem.W.kia_tup (Sd k) I.cU (RC I.aG ha) ho e (λz=>nomatch z) λtk=>#[.bl bb,H,I.tok tk,rfl,q]
def VT{x1}(hT:Rb X.K T cs)(hm:X.mg "isinstance"=none)(ha:FP X a fa)(pc:PA X es ta)(hta:∀(U) (H) (Q),Q (cs.map V.ref) H->ta U H Q)(hlen:cs.length<=1000)(hg:Gl X "isinstance":=by rfl)
  (hs:starEach [a,.Tuple es x1 p2] X.env=[(false,eval a X.env),(false,eval (.Tuple es x1 p2) X.env)]:=by rfl) (hpl:(backTo pos (starEach [.Tuple es x1 p2] X.env)).any (·.1)=false:=by rfl):FP X (.Call (.Name "isinstance" p) [a,.Tuple es x1 p2] [] pos) (e1 (ur T) fa):=by
 let#[t,pa,sa]:=ha;have ck:starEach [.Tuple es x1 p2] X.env=[(false,eval (.Tuple es x1 p2) X.env)]:=rfl;exists 21,o9 (ahW (cs:=cs)) hg hm (show bootBuiltins "isinstance"=some (.builtin "isinstance") by decide +kernel) (cV pa (cV (Cs pc) fq) (by rw[hs,ck])) (he:=by rw[hs,ck]) (hpl:=hpl);let#[d1,t1,h1,h2,rfl]:=ng e;refine sa ok h1 λH1 v fp s1 r1 _=>?_
 refine hta U H1 _ #[by rw[List.length_map];apply af4 (vD hlen),λl hl=>?_];have s2:aI H1 (upd H1 l (.tup (cs.map V.ref))):=λb o e=>by rw[aN (cX e hl)];apply e
 unfold ur at h2
 split at h2
 .rename_i cn;cases GS:T.lookup cn.1 with
  |none=>rw[GS] at h2;ext h2
  |some b=>
   rw[GS] at h2;ext h2;cases r1 with
   | @exc _ a' C de ob hn ho _=>
    let#[kk,ke]:=hT cn.1 b C GS hn;apply#[a',C,l,b,de,ob,rfl,bX,s2 _ _ ho,kk,ke,k _ _ [] (s1.trans s2) (.bl _) .nil]
 .cases h2
end L2.Ev
namespace L2.Ev
open PySem PySem.W
def Vy(X:K.In h)(G:h.Ns mainGlobals mg)(l:Bx K x st)(ok:∀{f} {fd},mg x=some (.ref f)->keepIn K (.ref f)=true->Binds K fd ps []->iR K x x st f fd->b_ P w K mg base CX k f fd ps sp cm)(b:BA x x st ps):FN P w K mg base CX k x ps sp cm:=by
 let#[f,a,l]:=l;let#[kp,fd,F]:=Cd l;apply#[f,fd,ok (mg_of X G a) kp (F.binds b) F,mg_of X G a,kp,F.binds b]
end L2.Ev
namespace L2
open PySem PySem.Spec PyProof.Rows
section
variable{X:Cx}
theorem PB{i:Int}:∀{n:Nat}{l:List Value}{k:Nat},l.length=n->(∀(m:Nat) (v:Value),l[m]? = some v->∃t,v=.int (i+((k+m:Nat):Int)) t)->aR ((List.range' k n).map λn:Nat=>V.int (i+n)) l
 |0,[],_,_,_=>.nil
 |n+1,v::l,k,h,hv=>by
  rw[List.range'_succ,aaB];refine .cons ?_ (PB (k:=k+1) (by simpa using h) λm w e=>?_)
  .let#[t,e]:=hv 0 v rfl;apply#[t,by rw[e];simp]
  .let#[t,e]:=hv (m+1) w (by simpa using e);apply#[t,by rw[e];congr 2;lia]
def adp(ta:TA):TE:=λU H Q=>ta U H λvs H1=>∃i j:Int,vs=[.int i,.int j]/\∀l,H1 l=none->Q (.ref l) (upd H1 l (.aJ i j))
def VD{a b:Expr}{ta:TA}{p2 p3:Pos}(mV:X.mg "range"=none)(ha:PA X [a,b] ta)(se:Gl X "range":=by rfl)
  (hs:starEach [a,b] X.env=[(false,eval a X.env),(false,eval b X.env)]:=by rfl) (ck:starEach [b] X.env=[(false,eval b X.env)]:=by rfl):PE X (.Call (.Name "range" p2) [a,b] [] p3) (adp ta):=by
 intro af s U H Q I h;refine Call_ (pN I se mV boot_range (agP (y9 (ha p3 af s U H _ I h) λus s1 vs H1 I1 r1 q1=>?_) (by rw[hs,ck]) (by rw[ck];rfl)));let#[i,j,e,q]:=q1;subst e;cases r1 with
 |cons r rr=>
  cases rr with
  |cons r' rr=>
   ext rr;let#[t,rfl]:=r;let#[t',rfl]:=r';refine call_range_2 ?_;apply#[.ref s1.heap.objs.size,upd H1 s1.heap.objs.size (.aJ i j),I1.laid (λb u e=>aaA _ e) (abD _) #[_,_,_,ab4 _ rfl],rfl,q _ (I1.aG.fresh (abD _))]
end
end L2
namespace L2.Ev
open PySem PySem.Spec PyProof.Rows
section
variable{X:Cx}{a b e:Expr}{fa fb fv:EF}{p p1 p2 p3 pos:Pos}
theorem Q4{K:Fr}{H:Hp}{i:Int}:∀(l:List Nat),aE K H (l.map λn:Nat=>D.int (i+n)) (l.map λn:Nat=>V.int (i+n)) []
 |[]=>.nil
 |n::l=>by rw[aaB,aaB];apply aE.cons (f1:=[]) (f2:=[]) (.int _) (Q4 l)
end
end L2.Ev
namespace L2.Ev
open PySem
def sq(h:sf Y=some (.nx Y'))(h2:sg Y'=r):cz sf sg Y=r:=by rw[jy,h,oJ,h2]
def b7(h:f Y=some (d,t))(h2:sg (jt Y i d t)=r):cz (dw i f) sg Y=r:=sq (by unfold dw;rw[h]) h2
def qC(h:tf Y=some b)(h2:cz (if b=true then sf else eO) sg Y=r):cz (dN tf sf eO) sg Y=r:=by
 have e:dN tf sf eO Y=(if b=true then sf else eO) Y:=by rw[iO,h];ext b<;>rfl
 rw[jy,e,<- jy,h2]
def bZ(h:tf Y=some false)(h2:sg Y=r):cz (dN tf sf eO) sg Y=r:=sq (by rw[iO,h];rfl) h2
def cN(h:f Y=some (d,t))(h2:op d=some d1):e1 op f Y=some (d1,.own):=by rw[uJ,h,DG,h2];rfl
def aQ(h:f Y=some (d1,t1))(h2:g Y=some (d2,t2))(h3:op d1 d2=some d):e2 op f g Y=some (d,.own):=by rw[kM,h,h2,zU,h3];rfl
def bP(h:g Y=some ps)(h2:F (ps.map (·.1))=some d):bC F g Y=some (d,.own):=by rw[s_call,h,Pb,h2];rfl
def bA(h:f Y=some (.bl b,t)):tV f Y=some b:=by rw[yE,h];rfl
def kN(h:tf Y=some b):iW tf Y=some (!b):=by rw[Ef,h];rfl
open PySem PySem.Spec PyProof.Rows
def uN(i:Nat)(cn f:Str)(fk fv:EF):SF:=λY=>match fv Y,Y[i]?,fk Y with
 | some (d,_),some (some (.ins c es,.own)),some (kd,_)=>if c=cn then(match es.lookup f,iw kd with
  |some (.bS ak),some k=>if(aH d&&aP (ak.map (·.2))&&decide (ak.length<sizeLine))=true then some (.nx (cP Y i (.ins c (dY f (.bS (putD ak k d)) es)))) else none
  |_,_=>none) else none
 |_,_,_=>none
def Dg(i:Nat)(hu:X.A.units+1<cLine)(hC:ClsAt X.K cn C)(na:jd X.K C f)(hk:FP X k fk)(hv:FP X v fv)(va:VA X i x:=by walk_at "va")
  (hb:attributeBase (.Name x p) f X.env (eval (.Name x p) X.env)=eval (.Name x p) X.env:=by rfl)
  (hs:swapsWith v (some (.Subscript (.Attribute (.Name x p) f p1) k pos')) pos.line X.env=pure false:=by rfl) :
  fL X (.Assign [.Subscript (.Attribute (.Name x p) f p1) k pos'] v pos) (uN i cn f fk fv):=by
 let#[tk,pk,sk]:=hk;let#[tv,mJ,sv]:=hv;exists 25,IC hu (sy va.pe hb) pk mJ hs;unfold uN at e
 split at e
 .rename_i d td c es kd Z8 g1 g2 g3
  by_cases hc:c=cn
  .subst hc;rw[if_pos rfl] at e
   split at e
   .rename_i ak key hl wQ
    by_cases hc:(aH d&&aP (ak.map (·.2))&&decide (ak.length<sizeLine))=true
    .rw[if_pos hc] at e;ext e;let#[c1,c3]:=(aaV _ _).mp hc;let#[c1,c2]:=(aaV _ _).mp c1;refine sv ok g1 λH1 v fd s1 rv gv=>?_
     have hn:=rv.aH c1;subst hn;let#[xv,fp,cZ,r,zz]:=(ok.same s1).sl i _ _ g2;refine#[xv,cZ,?_];let#[b0,dx,fs,u,gf,rfl,h1,h2,h3,h4,h5,h6]:=r.place hC.ns zz.1 hl;refine#[b0,C,dx,fs,u,rfl,h1,hC.cl,na,h2,?_];refine sk (ok.same s1) g3 λH2 y fk' s2 rk _=>?_
     have ek:=rk.key wQ;subst ek;have r':=h3.same s2;generalize hw:u=w at r' h6;cases r' with
     | @bS l ks _ f' h je rs=>
      have hn:=rs.aH c2;subst hn;have hlen:ks.length=ak.length:=by have:=congrArg List.length je;simpa using this.symm
      refine#[l,_,rfl,uZ.k h (by rw[hlen];apply aaK c3),?_];have im:bh H2 (upd H2 l (.dK (putK ks key v))):=bh.upd h rfl;have kp:∀(c) o,c∉[l]->H1 c=some o->upd H2 l (.dK (putK ks key v)) c=some o:=λc o n e=>by rw[aN λq=>n (by rw[q];apply aah)];apply s2 c o e
      let#[bV,k1,k2,k3]:=h6 (upd H2 l (.dK (putK ks key v))) (.bS (putD ak key d)) [l] ((bh.of s2).trans im) kp
       (.bS bX (Dw je) (EN je (rs.frame (λa m=>nomatch m) im) ((rv.same s2).frame (λa m=>nomatch m) im))) h4 (λc m=>.inl m)
      let#[z',bg]:=(ok.same s1).put g2 cZ zz ((bh.of s2).trans im) (λc o n e=>kp c o (λm=>n (h5 c m)) e) k1 k2 k3;apply q z' U _ bg (.refl _ _)
    .rw[abo hc] at e;ext e
   .cases e
  .rw[abo hc] at e;ext e
 .cases e
def By(i:Nat)(cn f:Str)(fv:EF):SF:=λY=>match fv Y,Y[i]? with
 | some (.int j,_),some (some (.ins c es,.own))=>if c=cn/\es.length < 1000 then(match es.lookup f with
  |some (.int k)=>some (.nx (cP Y i (.ins c (dY f (.int (k+j)) es))))
  |_=>none) else none
 |_,_=>none
def Hg(i:Nat)(hC:ClsAt X.K cn C)(na:jd X.K C f)(hv:FP X a fv)(va:VA X i x:=by walk_at "va"):fL X (.AugAssign (.Attribute (.Name x p1) f pos') .Add a pos) (By i cn f fv):=by
 let#[t,p,q]:=hv;exists 23,abj va.pe p adR;unfold By at e
 split at e
 .rename_i j tg c es h1 h2
  by_cases hc:c=cn/\es.length<1000
  .rw[if_pos hc] at e;let#[rfl,hl]:=hc
   split at e
   .rename_i m hf;ext e;let#[v,bz,cZ,r0,zz]:=ok.sl i _ _ h2;refine#[v,cZ,?_];let#[b,dx,fs,u,gf,rfl,h3,e2,e3,_]:=r0.place hC.ns zz.1 hf;let#[b',yr,vt,g,ev,rfl,C6,h4,h5,h6]:=r0.nJ hC.ns;ext ev;rw[h3] at C6;ext C6;ext e3;have lf:fs.length<1000:=by have:=congrArg List.length h5;rw[List.length_map,List.length_map] at this;omega
    refine#[b,C,dx,fs,_,rfl,h3,hC.cl,na,e2,q ok h1 λH1 y fd s1 r1 g1=>?_];ext r1;refine#[m,j,rfl,rfl,dx,fs,s1 _ _ h3,lf,?_];let#[z',bg]:=ok.fld hC h2 cZ h3 s1 (.int (m+j)) ac6 λc m=>nomatch m
    apply k z' U _ bg (.refl _ _)
   .cases e
  .rw[abo hc] at e;ext e
 .cases e
def mG(f:EF):TF:=λY=>match f Y with
 |some (.lst ds,_)=>some (!ds.isEmpty)
 |_=>none
def Jl(h:FP X a f)(he:∀whole,isTrue a X.env whole=(do let v <- whole;standAt a.pos;holding [v] (truthy v)):=by intro _;rfl):FT X a (mG f):=by
 let#[t,p,q]:=h;refine#[_,VH p he,@λH0 S z au Y U H Q b ok e k=>?_];unfold mG at e
 split at e
 .rename_i ds tg e1;ext e;refine q ok e1 λH1 v fp s1 r1 _=>?_
  let#[w,xs,f,rfl,hq,rs,_]:=r1.d_;have he:(!ds.isEmpty)=!xs.isEmpty:=by ext rs<;>rfl
  apply#[_,.inl #[xs,hq,rfl],he ▸ k H1 s1]
 .cases e
def ahE(hu:X.A.units+1<cLine)(ha:FP X a fa)(hb:FP X b fb)(hm:behindInMarks .NotIn b=false:=by rfl):FP X (.Compare a [.NotIn] [b] pos) (e2 (pF true) fa fb):=
 fp_2 Fk ha hb λta tb pa pb=>Ry (ZS hu pa pb) hm
end L2.Ev
namespace L2
open PySem PySem.Spec PyProof.Rows
def OJ(I:Inv X af U H s)(h:cE X.K H a (ks.map kV)):(tupleKind (ie X.prog X.w)).is s.heap ks a:=by
 let#[ay,r,#[o,h1,h2,_,n,h3],_]:=I.Qy h;apply#[o,ay.toArray,n,h1,h2,h3,by simpa using Kc r]
def SR(K:Fr)(neg:Bool):R2:=λx y H Q=>∃b a k ak,x=.ref b/\y=.ref a/\cE K H b (List.map kV k)/\H a=some (.dT ak)/\Q (.bl (if neg=true then !(fN ak k).isSome else(fN ak k).isSome)) H
def aef(hu:X.A.units+1<cLine):dF X (compareOp .In) (SR X.K false):=by
 rintro af s U H x y v u Q I rx ry ⟨b,a,k,ak,rfl,rfl,hq,e,q⟩
 obtain rfl:v=Value.ref b:=rx;obtain rfl:u=Value.ref a:=ry;let#[z,hd,xs,rel,dd]:=pU I.aG (.inl e);refine wpAny_in_heap (ahq hu) (OJ I hq) hd dd ?_;have w:=(rel.val k).uu;rw[ahZ] at w;rw[<- w];apply#[.bl (fN ak k).isSome,H,I.tok _,rfl,q]
def ad5(K:Fr)(td ty:TE):TE:=λU H Q=>td U H λx H1=>ty U H1 λy H2=>∃a b k ak v,x=.ref a/\y=.ref b/\cE K H2 b (List.map kV k)/\H2 a=some (.dT ak)/\fN ak k=some v/\Q v H2
def adO(hu:X.A.units+1<cLine)(ho:PE X o td)(hi:PE X i ty)(hs:yC i):PE X (.Subscript o i pos) (ad5 X.K td ty):=by
 intro af s U H Q I h;refine Rt PySem.F.slot_dict_getitem.lookup hs (ho.n I h λu s1 x H1 I1 rx q1=>cQ (hi af s1 U H1 _ I1 q1) λiv s2 hq=>?_);let#[y,H2,I2,ry,a,b,k,ak,v,ex,ey,hq,e,l,q2]:=hq;subst ex;subst ey;obtain rfl:u=Value.ref a:=rx;obtain rfl:iv=Value.ref b:=ry;let#[z,hd,xs,rel,dd]:=pU I2.aG (.inl e);let#[w',hw,eB]:=iH.some_of (by rw[<- l];apply rel.val k);let#[p,hp,HD]:=adq.mp hw;refine#[dd.typeIs,wpAny_getItem_heap (ahq hu) (OJ I2 hq) dd hp ?_];rw[HD];apply#[v,H2,I2.tok _,eB,q2]
namespace Ev
def jN:List D->Option (List Key)
 |[]=>some []
 |d::ds=>match iw d,jN ds with
  |some k,some ks=>some (k::ks)
  |_,_=>none
def aE.keys{K:Fr}:∀{ds} {xs} {fp} {ks},aE K H ds xs fp->jN ds=some ks->xs=ks.map L2.kV
 |[],_,_,_,.nil,e=>by ext e;rfl
 |d::ds,_,_,ks,.cons r rs,e=>by
  unfold jN at e
  split at e
  .rename_i k pq h1 h2;ext e;rw[r.key h1,aE.keys rs h2];rfl
  .cases e
def EL(neg:Bool):D->D->Option D
 |.tup ds,.fY es=>(jN ds).map λk=>.bl (if neg=true then !(aZ es k).isSome else(aZ es k).isSome)
 |_,_=>none
def abH{neg:Bool}{K:Fr}:gK K (SR K neg) (EL neg):=by
 intro H x y d1 d2 f1 f2 d Q r1 r2 e k;ext d1<;>try (ext e;done)
 ext d2<;>try (ext e;done)
 rename_i ds es;have e:((jN ds).map λk=>D.bl (if neg=true then !(aZ es k).isSome else(aZ es k).isSome))=some d:=e;let#[w,xs,rfl,hq,rs]:=r1.jB;cases hk:jN ds with
 |none=>rw[hk] at e;ext e
 |some ks=>
  rw[hk] at e;ext e;obtain rfl:=aE.keys rs hk;cases r2 with
  | @fY a ak _ f h je yt=>
   have ev:(fN ak ks).isSome=(aZ es ks).isSome:=by
    let#[h1,h2]:=sP je yt;cases hv:aZ es ks with
    |none=>rw[h2 hv];rfl
    |some dv=>let#[v,f,pX,_]:=h1 dv hv;rw[pX];rfl
   refine#[w,a,ks,ak,rfl,rfl,hq,h,?_];rw[ev];apply k H _ (aI.refl H) (.bl _)
def ab9(hu:X.A.units+1<cLine)(ha:FP X a fa)(hb:FP X b fb)(hm:behindInMarks .In b=false:=by rfl):FT X (.Compare a [.In] [b] pos) (tV (e2 (EL false) fa fb)):=jJ (aef hu) abH ha hb hm
def JC(fa fb:EF):EF:=λY=>match fa Y,fb Y with
 |some (.fY es,t),some (.tup ds,_)=>(jN ds).bind λk=>(aZ es k).map λd=>(d,lu t)
 |_,_=>none
def ahY(hu:X.A.units+1<cLine)(ha:FP X a fa)(hb:FP X b fb)(hs:yC b):FP X (.Subscript a b pos) (JC fa fb):=by
 let#[ta,pa,sa]:=ha;let#[tb,pb,sb]:=hb;exists 20,adO hu pa pb hs;unfold JC at e
 split at e
 .rename_i es t ds t2 e1 d7;cases hk:jN ds with
  |none=>rw[hk] at e;ext e
  |some ks=>
   rw[hk,adG] at e;cases hv:aZ es ks with
   |none=>rw[hv] at e;ext e
   |some dv=>
    rw[hv] at e;ext e;refine sa ok e1 λH1 x f1 s1 r1 g1=>?_
    refine sb (ok.same s1) d7 λH2 y f2 s2 r2 _=>?_
    let#[w,xs,rfl,hq,rs]:=r2.jB;obtain rfl:=aE.keys rs hk;have JR:=r1.same s2;cases JR with
    | @fY l ak _ f h je yt=>
     let#[h1,_]:=sP je yt;let#[v,f,pX,rv,sub]:=h1 _ hv;refine#[l,w,ks,ak,v,rfl,rfl,hq,h,pX,?_];apply q H2 v f (s1.trans s2) rv (di.sub (λa j e=>(ok.zd a j e).1) g1 λa m=>aab _ (sub a m))
 .cases e
def CZ(neg:Bool):D->D->Option D
 |d1,.lst ds=>if(dg d1&&dg (.lst ds))=true then some (.bl (if neg=true then !(fP ds).any λy=>PyData.eqv y (py d1) else(fP ds).any λy=>PyData.eqv y (py d1))) else none
 |_,_=>none
def IB(K:Fr)(neg:Bool):R2:=λx y H Q=>∃d1 ds f1 f2,Rep K H d1 x f1/\Rep K H (.lst ds) y f2/\dg d1=true/\dg (.lst ds)=true/\Q (.bl (if neg=true then !(fP ds).any λy=>PyData.eqv y (py d1) else(fP ds).any λy=>PyData.eqv y (py d1))) H
def ahI(hu:X.A.units+64<cLine):dF X (compareOp .In) (IB X.K false):=by
 intro af s U H x y v u Q I rx ry h;let#[d1,ds,f1,f2,r1,r2,l1,l2,q]:=h;let#[a1,a2,a3]:=lay_of l1;let#[b1,b2,b3]:=lay_of l2;let#[as,ra]:=pP I r1 rx a1;let#[bs,rb]:=pP I r2 ry b1;rw[py] at rb b2 b3;simp only[PyData.canLay0] at b2;apply SeqAt.in_list_reads rb ra b2 a2 (by have:=Nat.min_le_right (PyData.depthAll (fP ds)) (py d1).depth;omega) #[.bl _,H,I,rfl,q]
def aep(hu:X.A.units+64<cLine):dF X (compareOp .NotIn) (IB X.K true):=by
 intro af s U H x y v u Q I rx ry h;let#[d1,ds,f1,f2,r1,r2,l1,l2,q]:=h;let#[a1,a2,a3]:=lay_of l1;let#[b1,b2,b3]:=lay_of l2;let#[as,ra]:=pP I r1 rx a1;let#[bs,rb]:=pP I r2 ry b1;rw[py] at rb b2 b3;simp only[PyData.canLay0] at b2;apply SeqAt.notIn_list_reads rb ra b2 a2 (by have:=Nat.min_le_right (PyData.depthAll (fP ds)) (py d1).depth;omega) #[.bl _,H,I,rfl,q]
def PN{K:Fr}:gK K (IB K neg) (CZ neg):=by
 intro H x y d1 d2 f1 f2 d Q r1 r2 e k;ext d2<;>try (ext e;done)
 rename_i ds;have e:(if(dg d1&&dg (.lst ds))=true then some (D.bl (if neg=true then !(fP ds).any λy=>PyData.eqv y (py d1) else(fP ds).any λy=>PyData.eqv y (py d1))) else none)=some d:=by ext d1<;>apply e
 by_cases hc:(dg d1&&dg (.lst ds))=true
 .rw[if_pos hc] at e;ext e;let#[c1,c2]:=(aaV _ _).mp hc;apply#[d1,ds,f1,f2,r1,r2,c1,c2,k H _ (aI.refl H) (.bl _)]
 .rw[abo hc] at e;ext e
def adH(hu:X.A.units+64<cLine)(ha:FP X a fa)(hb:FP X b fb)(hm:behindInMarks .NotIn b=false:=by rfl):FT X (.Compare a [.NotIn] [b] pos) (tV (e2 (CZ true) fa fb)):=jJ (aep hu) PN ha hb hm
def abi(hu:X.A.units+64<cLine)(ha:FP X a fa)(hb:FP X b fb)(hm:behindInMarks .In b=false:=by rfl):FP X (.Compare a [.In] [b] pos) (e2 (CZ false) fa fb):=qN (ahI hu) PN ha hb hm
def Yk:FP X (.Dict [] [] pos) (eC (.fY [])):=by
 refine#[_,X_,@λH0 S z au Y U H Q d tg ok e k p hp=>?_];ext e;have s2:aI H (upd H p (.dT [])):=λb o e=>by rw[aN (cX e hp)];apply e
 apply k _ _ [p] s2 (.fY bX rfl .nil) #[ab6.mpr #[(λm=>by ext m),ac6],λa m=>by cases aav.mp m;apply hp]
end Ev
end L2
namespace L2
open PySem PySem.W PyProof.Rows
structure qj(r:Nat->Nat->Bool)(n:Nat):Prop where
 tr:∀i j k,i<n->j<n->k<n->r i j=true->r j k=true->r i k=true
 tt:∀i j,i<n->j<n->i≠j->r i j=false->r j i=true
def jY(r:Nat->Nat->Bool)(p:Array Nat)(m:Nat):Prop:=∀i j,i<j->j<m->r (p.getD i 0) (p.getD j 0)=true
def ze(r:Nat->Nat->Bool)(p:Array Nat)(m:Nat):Prop:=∀i j,i<j->j<m->r (p.getD j 0) (p.getD i 0)=true
abbrev a_(n:Nat)(p:Array Nat):Prop:=p.Perm (List.range n).toArray
section
variable{p:Array Nat}
def a_.sz(P:a_ n p):p.size=n:=by rw[Array.Perm.size_eq P];simp
def getD_at(h:i<p.size):p.getD i 0=p[i]:=by simp[Array.getD,h]
def a_.lt(P:a_ n p)(h:i<n):p.getD i 0<n:=by
 have hs:i<p.size:=by rw[a_.sz P];apply h
 rw[getD_at hs];have m:p[i]∈p.toList:=by simp
 have:=(ah7.mp P).mem_iff.mp m;simpa using this
def a_.ne(P:a_ n p)(hi:i<n)(hj:j<n)(h:i≠j):p.getD i 0≠p.getD j 0:=λe'=>by
 have hs:i<p.size:=by rw[a_.sz P];apply hi
 have cZ:j<p.size:=by rw[a_.sz P];apply hj
 rw[getD_at hs,getD_at cZ] at e';have nd:=(ah7.mp P).nodup_iff.mpr (by simpa using List.nodup_range);have w:=aiK.mp nd;rcases Nat.lt_or_gt_of_ne h with q|q
 .exact w i j (by simpa using hs) (by simpa using cZ) q (by simpa using e')
 .exact w j i (by simpa using cZ) (by simpa using hs) q (by simpa using e'.symm)
def wD(cmp:Nat->Nat->(Bool->Shared->Prop)->Shared->Prop)(r:Nat->Nat->Bool)(n:Nat)(s:Shared):Prop:=∀i j C,i<n->j<n->i≠j->C (r i j) s->cmp i j C s
def jY.snoc(T:qj r n)(P:a_ n p)(h:jY r p m)(h1:1<=m)(hm:m<n)(h2:r (p.getD (m-1) 0) (p.getD m 0)=true):jY r p (m+1):=λi j a b=>by
 by_cases e:j=m
 .subst e
  by_cases e':i=j-1
  .subst e';apply h2
  .exact T.tr _ _ _ (a_.lt P (by lia)) (a_.lt P (by lia)) (a_.lt P (by lia)) (h i (j-1) (by lia) (by lia)) h2
 .exact h i j a (by lia)
def ze.snoc(T:qj r n)(P:a_ n p)(h:ze r p m)(h1:1<=m)(hm:m<n)(h2:r (p.getD m 0) (p.getD (m-1) 0)=true):ze r p (m+1):=λi j a b=>by
 by_cases e:j=m
 .subst e
  by_cases e':i=j-1
  .subst e';apply h2
  .exact T.tr _ _ _ (a_.lt P (by lia)) (a_.lt P (by lia)) (a_.lt P (by lia)) h2 (h i (j-1) (by lia) (by lia))
 .exact h i j a (by lia)
theorem E7(T:qj r n)(A:wD cmp r n s)(P:a_ n p):∀(f m) {G},1<=m->m+f<=n->jY r p m->
  (∀m',m<=m'->m'<=m+f->jY r p m'->(m'=m+f\/r (p.getD m' 0) (p.getD (m'-1) 0)=true)->G m' s)->(kas_asc p f m).kasWp cmp G s
 |0,m,G,_,_,hs,g=>g m (abD _) (abD _) hs (.inl rfl)
 |f+1,m,G,h1,h2,hs,g=>by
  refine A _ _ _ (a_.lt P (by lia)) (a_.lt P (by lia)) (a_.ne P (by lia) (by lia) (by lia)) ?_;cases c:r (p.getD m 0) (p.getD (m-1) 0) with
  |true=>apply g m (abD _) (by lia) hs (.inr c)
  |false=>
   apply E7 T A P f (m+1) (by lia) (by lia) (hs.snoc T P h1 (by lia) (T.tt _ _ (a_.lt P (by lia)) (a_.lt P (by lia)) (a_.ne P (by lia) (by lia) (by lia)) c)) λm' a b c d=>g m' (by lia) (by lia) c (by rw[show m+1+f=m+(f+1) by lia] at d;apply d)
theorem Q3(T:qj r n)(A:wD cmp r n s)(P:a_ n p):∀(f m) {G},1<=m->m+f<=n->ze r p m->
  (∀m',m<=m'->m'<=m+f->ze r p m'->G (p,m',0) s)->(kas_desc f p m 0).kasWp cmp G s
 |0,m,G,_,_,hs,g=>g m (abD _) (abD _) hs
 |f+1,m,G,h1,h2,hs,g=>by
  refine A _ _ _ (a_.lt P (by lia)) (a_.lt P (by lia)) (a_.ne P (by lia) (by lia) (by lia)) ?_;cases c:r (p.getD m 0) (p.getD (m-1) 0) with
  |true=>apply Q3 T A P f (m+1) (by lia) (by lia) (hs.snoc T P h1 (by lia) c) λm' a b d=>g m' (by lia) (by lia) d
  |false=>
   refine A _ _ _ (a_.lt P (by lia)) (a_.lt P (by lia)) (a_.ne P (by lia) (by lia) (by lia)) ?_;rw[T.tt _ _ (a_.lt P (by lia)) (a_.lt P (by lia)) (a_.ne P (by lia) (by lia) (by lia)) c];apply g m (abD _) (by lia) hs
def rev_getD(hm:m<=p.size)(h:i<m):(kas_rev p 0 m).getD i 0=p.getD (m-1-i) 0:=by
 have e:=getElem?_mirror_all (i:=0) hm i;rw[if_pos #[ade _,h]] at e;unfold kas_rev;rw[agc,agc,e]
 congr 2;lia
def aci(T:qj r n)(A:wD cmp r n s)(P:a_ n p)(h:1<=n)(g:∀m q,1<=m->m<=n->a_ n q->jY r q m->G (m,q) s):(kas_count n p).kasWp cmp G s:=by
 unfold kas_count;rw[KasT.kasWp_bind];refine E7 T A P (n-1) 1 (abD _) (by lia) (λi j a b=>by lia) λm a b hs d=>?_
 by_cases e:m=n
 .subst e;rw[if_pos (by simp)];apply g m p a (abD _) P hs
 .rw[abo (by simpa using e)]
  by_cases e1:m > 1
  .rw[if_pos e1];refine A _ _ _ (a_.lt P (by lia)) (a_.lt P (by lia)) (a_.ne P (by lia) (by lia) (by lia)) ?_;rw[hs 0 (m-1) (by lia) (by lia)];apply g m p a (by lia) P hs
  .rw[abo e1];obtain rfl:m=1:=by lia
   have d:=d.resolve_left (by lia);unfold kas_descPart;rw[KasT.kasWp_bind];refine Q3 T A P (n - (1 + 1)) (1 + 1) (by lia) (by lia) (λi j a b=>by
    obtain⟨rfl,rfl⟩:i=0/\j=1:=by lia
    apply d) λm' a' b' hd=>?_
   dsimp only;rw[abo (by lia)];unfold kas_tail3;rw[KasT.kasWp_bind];have Q:a_ n (kas_rev p 0 m'):=(mirror_perm _ _ _ _).trans P;refine E7 T A Q (n-m') m' (by lia) (by lia) (λi j a b=>?_) λm2 a2 b2 ck _=>g m2 _ (by lia) (by lia) Q ck
   rw[rev_getD (by rw[a_.sz P];lia) (by lia),rev_getD (by rw[a_.sz P];lia) (by lia)];apply hd _ _ (by lia) (by lia)
theorem HJ(T:qj r n)(A:wD cmp r n s)(P:a_ n p)(hx:x<n)(hs:jY r p x):∀(f l u) {G},u-l<=f->u<=x->l<=u->(∀i,i<l->r (p.getD i 0) (p.getD x 0)=true)->(∀i,u<=i->i<x->r (p.getD x 0) (p.getD i 0)=true)->
  (∀l,l<=x->(∀i,i<l->r (p.getD i 0) (p.getD x 0)=true)->(∀i,l<=i->i<x->r (p.getD x 0) (p.getD i 0)=true)->G l s)->(kas_place p x f l u).kasWp cmp G s
 |0,l,u,G,h1,h2,h3,lo,hi,g=>g l (by lia) lo λi a b=>hi i (by lia) b
 |f+1,l,u,G,h1,h2,h3,lo,hi,g=>by
  unfold kas_place
  by_cases c:l >= u
  .rw[if_pos c];apply g l (by lia) lo λi a b=>hi i (by lia) b
  .rw[abo c];refine A _ _ _ (a_.lt P hx) (a_.lt P (by lia)) (a_.ne P (by lia) (by lia) (by lia)) ?_;cases d:r (p.getD x 0) (p.getD ((l+u) / 2) 0) with
   |true=>
    refine HJ T A P hx hs f l ((l+u) / 2) (by lia) (by lia) (by lia) lo (λi a b=>?_) g
    by_cases e:i=(l+u) / 2
    .rw[e];apply d
    .exact T.tr _ _ _ (a_.lt P (by lia)) (a_.lt P (by lia)) (a_.lt P (by lia)) d (hs _ i (by lia) b)
   |false=>
    have d:=T.tt _ _ (a_.lt P (by lia)) (a_.lt P (by lia)) (a_.ne P (by lia) (by lia) (by lia)) d;refine HJ T A P hx hs f ((l+u) / 2+1) u (by lia) h2 (by lia) (λi a=>?_) hi g
    by_cases e:i=(l+u) / 2
    .rw[e];apply d
    .exact T.tr _ _ _ (a_.lt P (by lia)) (a_.lt P (by lia)) (a_.lt P (by lia)) (hs i _ (by lia) (by lia)) d
def Oi(hx:x<p.size)(hl:l<=x):(bubble p x (x-l)).getD i 0=if i=l then p.getD x 0 else if l<i/\i<=x then p.getD (i-1) 0 else p.getD i 0:=by
 have e:=getElem?_bubble hx (x-l) (by lia) i;rw[show x-(x-l)=l by lia] at e;rw[agc,e]
 by_cases h1:i=l
 .rw[if_pos h1,if_pos h1,agc]
 .rw[abo h1,abo h1]
  by_cases h2:l<i/\i<=x
  .rw[if_pos h2,if_pos h2,agc]
  .rw[abo h2,abo h2,agc]
theorem Og(T:qj r n)(A:wD cmp r n s):∀(f) (p) (x) {G},a_ n p->1<=x->x+f=n->jY r p x->(∀q,a_ n q->jY r q n->G q s)->(kas_bin f p x).kasWp cmp G s
 |0,p,x,G,P,_,e,hs,g=>g p P (by rw[<- e];apply hs)
 |f+1,p,x,G,P,h1,e,hs,g=>by
  unfold kas_bin;rw[KasT.kasWp_bind];refine HJ T A P (by lia) hs x 0 x (by lia) (abD _) (ade _) (λi a=>by lia) (λi a b=>by lia) λl hl lo hi=>?_
  have hz:x<p.size:=by rw[a_.sz P];lia
  refine Og T A f _ (x+1) ((bubble_perm _ _ _).trans P) (by lia) (by lia) (λi j a b=>?_) g;rw[Oi hz hl,Oi hz hl]
  by_cases i1:i=l
  .rw[if_pos i1,abo (by lia),if_pos (by lia)];apply hi _ (by lia) (by lia)
  .rw[abo i1]
   by_cases j1:j=l
   .rw[if_pos j1,abo (by lia)];apply lo _ (by lia)
   .rw[abo j1]
    by_cases i2:l<i/\i<=x
    .rw[if_pos i2,if_pos (by lia)];apply hs _ _ (by lia) (by lia)
    .rw[abo i2]
     by_cases j2:l<j/\j<=x
     .rw[if_pos j2];apply hs _ _ (by lia) (by lia)
     .rw[abo j2];apply hs _ _ (by lia) (by lia)
def ae0(T:qj r n)(A:wD cmp r n s)(h:1<=n)(g:∀q,a_ n q->jY r q n->G q s):(kas_sort n).kasWp cmp G s:=by
 unfold kas_sort;rw[KasT.kasWp_bind];refine aci T A (Array.Perm.refl _) h λm q a b Q hs=>?_
 by_cases e:m<n
 .dsimp only;rw[if_pos e,Nat.max_eq_left a];apply Og T A _ q m Q a (by lia) hs g
 .dsimp only;rw[abo e];obtain rfl:m=n:=by lia
  apply g q Q hs
end
open PySem PySem.Spec PySem.W PyProof.Rows
def lex(x y:Int×Int):Bool:=decide (x.1<y.1\/x.1=y.1/\x.2<y.2)
def IsPair(h:Heap)(q:Addr)(x:Int×Int):Prop:=∃t u,IsTup h q ([.int x.1 t,.int x.2 u].toArray)
def ZW{pr:Nat->Int×Int}(h:∀i j,i<n->j<n->pr i=pr j->i=j):qj (λi j=>lex (pr i) (pr j)) n where
 tr:=λi j k _ _ _ a b=>by
  have a:=aaK a;have b:=aaK b;apply aaC (by lia)
 tt:=λi j a b ne e=>by
  have e:=aiU e;have n2:¬((pr i).1=(pr j).1/\(pr i).2=(pr j).2):=λz=>ne (h i j a b (Prod.ext z.1 z.2))
  apply aaC (by lia)
def af1(hx:IsPair s.heap x a)(hy:IsPair s.heap y b)(h:Q (lex a b) s):wpAny (model prog w) A (keyLt' (tuples' true) (.ref x) (.ref y)) Q E s:=by
 let#[t,u,o,h1,_,n,h2]:=hx;let#[t',u',o',iC,_,n',nv]:=hy;refine kat_lt h1 h2 iC nv (kat_cons (wpAny_eqBool_int (kat_go (λe=>kat_yes (kat_cons (wpAny_eqBool_int (kat_go (λe2=>kat_yes (kat_nil ?_)) λe2=>kat_no (kat_one _ _ (lt_int ?_)))))) λe=>kat_no (oneLt_int ?_))))
 .have e:=eq_of_beq e;have e2:=eq_of_beq e2;have:lex a b=false:=aa8 (by omega);rw[this] at h;apply h
 .have e:=eq_of_beq e;have:lex a b=decide (a.2<b.2):=by unfold lex;congr 1;apply propext #[λz=>by omega,λz=>.inr #[e,z]]
  rw[this] at h;apply h
 .have e:=ne_of_beq_false e;have:lex a b=decide (a.1<b.1):=by unfold lex;congr 1;apply propext #[λz=>by omega,.inl]
  rw[this] at h;apply h
theorem R9:∀{qs} {ps},Paired (IsPair h) qs ps->∃fs,KatTups h (qs.map Value.ref) fs/\fs.length=qs.length/\∀v∈fs,∃i t,v=Value.int i t
 |_,_,.nil=>#[[],.nil,rfl,λ_ m=>nomatch m]
 |_,_,.cons r t=>by
  let#[fs,h1,h2,h3]:=R9 t;let#[t,u,o,e1,e2,n,e3]:=r;apply#[_::fs,KatTups.cons e1 e2 e3 rfl h1,by rw[acF,acF,h2],λv m=>(aaO.mp m).elim (λz=>#[_,_,z]) (h3 v)]
def ab5{a kS:Addr}{vs:List Value}(lY:vs.length<64)(hl:qs.length=vs.length)(hp:Paired (IsPair s.heap) qs ps)(nd:ps.Nodup)
  (hk:s.heap.get? kS=some (seqObj "list" (qs.map Value.ref).toArray e)) (ha:s.heap.get? a=some (seqObj "list" ([].toArray) e1)) (ne:a≠kS)
  (h:∀q:Array Nat,a_ vs.length q->jY (λi j=>lex (ps.getD i (0,0)) (ps.getD j (0,0))) q vs.length->
   P (.done (.ret .none)) { s with heap:=(s.heap.update kS (Obj.mapSeq λ_=>([].toArray))).update a (Obj.mapSeq λ_=>(q.toList.map λi=>vs.getD i Value.none).toArray) }) :
  wpAny (model prog w) A (ksk_end a false vs.toArray e1 (.ref kS) (qs.map Value.ref).toArray) P E s:=by
 have Ae:(qs.map Value.ref).length=vs.length:=by rw[List.length_map];apply hl
 have tail:∀(st) (q),a_ vs.length q->jY (λi j=>lex (ps.getD i (0,0)) (ps.getD j (0,0))) q vs.length->(arrOf st).map (·.2)=(q.toList.map λi=>vs.getD i Value.none).toArray->failedOf st=none->
   wpAny (model prog w) A (ksk_tail a false e1 (.ref kS) st) P E s:=by
  intro st q hq hs ho hf;have s1:=Heap.SameBut.update s.heap kS (Obj.mapSeq λ_=>(([].toArray):Array Value));have QM:=(s1.2 a ne).trans ha;unfold ksk_tail;dsimp only;refine aaN (listUpdate_at hk rfl ?_ (by rw[abK,Ae,aga];lia) (ade _));refine aaN (wpAny_letGo ?_);refine aaN (seqEpoch_at QM rfl ?_);refine aaN (listUpdate_at QM rfl ?_ (ade _) ?_)
  .rw[hf];simp only[bne_self_eq_false,aii,if_false];rw[ho];apply acp (h q hq hs)
  .simp only[aii,if_false];rw[ho,abK,List.length_map,af8,a_.sz hq,aga];lia
 unfold ksk_end;dsimp only;rw[abo aa2]
 by_cases h2:vs.toArray.size<2
 .rw[if_pos h2,if_pos h2];refine aaN (acp ?_);rw[StateT.run_pure];refine aaN (acp ?_);dsimp only;rw[abK] at h2;refine tail _ (List.range vs.length).toArray (Array.Perm.refl _) (λi j a b=>by lia) ?_ rfl;have e:=kat_snds Ae (st:=kas_st general' ((qs.map Value.ref).toArray.zip vs.toArray) (List.range vs.length).toArray) rfl;have er:(List.range vs.length).toArray.map (kas_item ((qs.map Value.ref).toArray.zip vs.toArray))=(qs.map Value.ref).toArray.zip vs.toArray:=by
   have:=kas_range ((qs.map Value.ref).toArray.zip vs.toArray);rw[show((qs.map Value.ref).toArray.zip vs.toArray).size=vs.length by simp[hl]] at this;apply this
  rw[<- e];show((qs.map Value.ref).toArray.zip vs.toArray).map (·.2)=((List.range vs.length).toArray.map (kas_item ((qs.map Value.ref).toArray.zip vs.toArray))).map (·.2);rw[er]
 .rw[abo h2,abo h2];rw[abK] at h2;let#[fs,k1,k2,k3]:=R9 hp;refine aaN (kat_kind k1 (by lia) (λv m=>by let#[i,t,rfl]:=k3 v m;apply Looks.of_pure rfl) (by decide) ?_);refine aaN (aeo (kat_run (Q:=λst s'=>s'=s/\∃q:Array Nat,a_ vs.length q/\jY (λi j=>lex (ps.getD i (0,0)) (ps.getD j (0,0))) q vs.length/\(arrOf st).map (·.2)=(q.toList.map λi=>vs.getD i Value.none).toArray/\failedOf st=none)
   (G:=λq s'=>s'=s/\a_ vs.length q/\jY (λi j=>lex (ps.getD i (0,0)) (ps.getD j (0,0))) q vs.length) Ae (by lia) lY (λq n9 s' _ ha hf g=>#[g.1,q,g.2.1,g.2.2,kat_snds Ae ha,hf]) ?_) ?_ λ_ _ z=>z)
  .have lp:ps.length=vs.length:=by rw[<- Paired.length hp];apply hl
   refine ae0 (ZW λi j a b e=>?_) (λi j C hi hj _ hc=>?_) (by lia) λq a b=>#[rfl,a,b]
   .have ei:i<ps.length:=by lia
    have ej:j<ps.length:=by lia
    simp only[adA,abm ei,abm ej,aiy] at e;have w:=aiK.mp nd;rcases Nat.lt_trichotomy i j with q|q|q
    .exact absurd e (w i j ei ej q)
    .exact q
    .exact absurd e.symm (w j i ej ei q)
   .have at_:∀i,i<vs.length->∃x,(qs.map Value.ref).getD i Value.none=.ref x/\IsPair s.heap x (ps.getD i (0,0)):=λi hi=>by
     have lq:i<qs.length:=by lia
     have Ob:i<ps.length:=by lia
     refine#[qs[i],by simp[adA,lq],?_];rw[adA,abm Ob,aiy];have go:∀{qs} {ps},Paired (IsPair s.heap) qs ps->∀(i) (a) (b:i<ps.length),IsPair s.heap qs[i] ps[i]:=by
      intro qs ps r
      induction r with
      |nil=>intro i a;apply absurd a (Nat.not_lt_zero _)
      |cons r t ih=>intro i a b;cases i with
       |zero=>apply r
       |succ i=>apply ih i (by simpa using a) (by simpa using b)
     apply go hp i lq Ob
    let#[x,ex,hx]:=at_ i hi;let#[y,ey,hy]:=at_ j hj;show wpAny (model prog w) A (keyLt' _ ((qs.map Value.ref).getD i Value.none) ((qs.map Value.ref).getD j Value.none)) C _ s;rw[ex,ey];apply af1 hx hy hc
  .rintro⟨⟨⟩,st⟩ s' ⟨rfl,q,h1,h3,h4,h5⟩
   apply tail st q h1 h3 h4 h5
theorem Cy:∀{K:Fr},K.lookup a=some o->(a,o)∈K
 |[],h=>by ext h
 |(b,u)::r,h=>by
  by_cases e:(a==b)=true
  .simp only[List.lookup,e] at h;ext h;rw[eq_of_beq e];apply aah
  .simp only[List.lookup,(by simpa using e:(a==b)=false)] at h;apply aab _ (Cy h)
def aer(I:Inv X af U H s)(lk:X.K.lookup f0=some o0)(sh:vm o0=some (cv,q,jW)):∃cc P,cv=.ref cc/\codeHdIn X.K cc P=true/\H P=some (.iU q jW):=by
 let#[cg,ok]:=(aaV _ _).mp I.hq.ok;have cg:=aei.mp ((aaV _ _).mp cg).2 (f0,o0) (Cy lk);have cg:=cg;rw[sh] at cg;let#[#[cc,P,q',pos'],e]:=afS.mp (show(Dh X.K (f0,o0)).isSome=true from cg);have hm:(cc,P,q',pos')∈jg X.K:=aif.mpr #[_,Cy lk,e];have e':=e;unfold Dh at e';dsimp only at e';rw[sh] at e'
 split at e'
 .rename_i h;ext h
  split at e'
  .split at e'
   .cases e';refine#[cc,P,rfl,?_,I.hq.lm _ hm]
    split at ok
    .rename_i e;rw[e] at hm;ext hm
    .rename_i r e;rw[e] at hm;cases aav.mp hm;apply((aaV _ _).mp ok).1
    .cases ok
   .cases e'
  .cases e'
 .cases e'
def XA(I:Inv X af U H s)(lk:X.K.lookup f0=some o0)(sh:vm o0=some (X.env.code,q,jW))(z9:defaultsOf args X.env=([],[]))(wc:closureFor sc X.env=pure oO)(hq:X.env.qual++"<lambda>"=q)
  (h:∀f c' i0 pm H' s',Inv X ((f,kla_obj "<lambda>" q args body sc oO pm c' i0)::af) U H' s'->aI H H'->H' c'=some (.jq q)->Q (.ref f) s'):wpAny (model X.prog X.w) A (eval (.Lambda args body sc jW) X.env) Q E s:=by
 refine kla_eval z9 ?_;rw[hq];let#[cc,P,QW,hc,hP]:=aer I lk sh;let#[ps,eP,tX]:=I.aG P _ hP;have C:=codeHd_of_K I.cU hc;have g:=I.ok.mod.glob.keeps I.bk;let#[bm,ob,b1,b2,b3,b4,b5,b6]:=I.ok.mod.bmn;have nP:∀{b} {o},X.base.get? b=some o->b≠P:=λ{b o} e z=>by
  have:=(I.bs b o e).2;rw[z,hP] at this;ext this
 let#[om,es,ep,em,dm,_]:=id I.ok.mod.glob;have hb:s.heap.BuiltinsAt X.mg P:=#[bm,ob,b1,b2,(λz=>by rw[z,em] at b3;ext b3;rw[dm] at b6;ext b6),nP b3,I.bk _ _ b3,b4,b5,b6]
 have fin:∀(f) (o) (H') (s'),Inv X af U H' s'->s'.heap.get? f=some o->s.heap.objs.size<=f->H' f=none->(∀v,o.data≠.cell v)->Inv X ((f,o)::af) U H' s':=λf o H' s' J e hf hn hd=>by
  refine J.rS λp hp=>?_
  rcases aaO.mp hp with rfl|hp
  .exact#[e,hn,ahU (ac9 I.lt hf),I.Ms hf,hd]
  .exact J.pin p (aaS _ hp)
 rcases tX with rfl|⟨c',rfl,uf⟩
 .refine kla_makeFunction wc I.ok.glob g QW C eP trivial rfl (nP em) hb λc' i0 h' tk hx CC eT afX Nl=>?_
  have fc:=I.aG.fresh CC;have ff:=I.aG.fresh (af4 (aih CC eT));have up:∀{b} {o},H b=some o->upd H c' (.jq q) b=some o:=λ{b o} e=>by rw[aN (cX e fc)];apply e
  have pu:∀(b) (o),b≠P->s.heap.get? b=some o->(h'.push (kla_obj "<lambda>" q args body sc oO ((X.mg "__name__").getD .none) c' i0)).get? b=some o:=λb o n e=>aaA _ (hx b o n e)
  have Qw:∀{b},H b=none->b≠P:=λ{b} e z=>by rw[z,hP] at e;ext e
  have J:Inv X af U (upd H c' (.jq q)) { s with heap:=h'.push (kla_obj "<lambda>" q args body sc oO ((X.mg "__name__").getD .none) c' i0),toks:=tk }:=by
   refine I.un #[λb o e n _ _=>pu b o (Qw n) e,λb o e n _ _=>#[o.slots,pu b o (Qw n) e],λb o e n _=>?_,λb o e _=>?_,λb t e=>up e,λb o u e=>up e,λb ps e=>#[([].toArray),by rw[up e];simp]] λa o e=>?_
   .rw[aN (acV (ac9 (abh e) CC))];apply n
   .by_cases z:b=P
    .rw[z];apply#[_,aaA _ Nl]
    .exact#[o,pu b o z e]
   .by_cases z:a=c'
    .subst z;rw[bX] at e;ext e;apply afX.push _
    .rw[aN z] at e
     by_cases z2:a=P
     .subst z2;rw[hP] at e;ext e;apply#[_,aaA _ Nl,.inr #[c',by simp,bX]]
     .refine(I.aG a o e).gH (λb u wU q=>pu b u ?_ q) (λb q=>up q) λb t q=>up q
      rcases wU with z3|z3
      .rw[z3];apply z2
      .intro z4;rw[z4,hP] at z3;ext z3
  refine h _ c' i0 _ _ _ (fin _ _ _ _ J (ab4 _ rfl) (af4 (aih CC eT)) ?_ (λv z=>by ext z)) (λb o e=>up e) bX;rw[aN (ahU eT)];apply ff
 .refine kla_makeFunctionHit wc I.ok.glob g QW C eP (TriplesOk_snoc _ _ _ [] trivial) (codeAmong_snoc [] trivial rfl) hb λi0 h' tk hk hsz=>?_
  apply h _ c' i0 _ H _ (fin _ _ _ _ (I.kept λb u e=>aaA _ (hk b u e)) (ab4 _ rfl) hsz (I.aG.fresh hsz) λv z=>by ext z) (aI.refl H) uf
def ua(X:Cx)(A:Around)(x y:Str)(q:Str)(sc:Scope)(f:Addr)(cd:Value)(oO:List (Str×Addr))(s:Shared)(H:Hp):Cx where
 prog:=X.prog
 w:=X.w
 K:=X.K
 mg:=X.mg
 base:=X.base
 A:=A.deeper (envX q sc s.heap.objs.size f cd oO)
 N:=[x,y]
 cT:=s
 vZ:=H
 env:=envX q sc s.heap.objs.size f cd oO
 outer:=X.stack
 stack:=envX q sc s.heap.objs.size f cd oO::X.stack
 ex:=[]
 fn:=λ_=>false
 calm:=X.calm
 pn:=[]
 xe:=λ_ _=>False
structure Ce(sc:Scope)(args:Arguments)(x y:Str):Prop where
 kind:sc.kind=.function
 co:sc.isCoroutine=false
 gen:sc.isGenerator=false
 zu:∀z∈sc.names,z.2≠.cell
 loc:sc.names.lookup x=some .local
 yd:sc.names.lookup y=some .free
 one:∀z∈sc.names,z.2=.free->z.1=y
 bnd:∀(q) (body) (oO) (pm aV i0 u),bindArgs (kla_fn "<lambda>" q args body sc oO pm aV i0) #[[u],[]]=pure [(x,u)]
def Yt{j:Nat}(I:Inv X af U H s)(S:Ce sc args x y)(hf:(f,kla_obj "<lambda>" q args body sc [(y,c)] pm c' i0)∈af)(hc:H c'=some (.jq q))
  (ou:X.env.cells.lookup y=some c) (hj:X.N[j]? = some y) (hv:U[j]? = some (some v1)) (qp:X.env.scope.names.lookup y=some .cell) (ru:RelV v0 u) (hA:A.frames=X.A.frames) (hh:A.handled=X.A.handled) (hr:A.depth<recursionLimit)
  (hb:PE (ua X A x y q sc f (.ref c') [(y,c)] s H) body te) (h:te [some v0,some v1] H Q):wpAny (model X.prog X.w) A (call (.ref f) [u]) (EP X af U Q) E s:=by
 have WZ:=(I.pin _ (aaS _ hf)).1;refine wpAny_call (aiL (R:=λr s'=>match r with|.ok (.ret v)=>CE X.stack X.prog X.w H s Q v s'|_=>False) ?_ λr s' z=>?_)
 .refine kla_callFunE hr WZ rfl S.co S.gen rfl (I.aG c' _ hc) ?_;rw[S.bnd];refine acp (wpAny_newFunctionEnv S.zu (λz m=>by cases aav.mp m;apply S.loc) (λCA vC EK=>?_) S.kind);have yT:∀b o,s.heap.get? b=some o->CA.get? b=some o:=λb o e=>EK.extBut b o (acV (abh e)) (aaA _ e)
  refine#[(I.ok.mod.nolimit.keeps I.bk).keeps yT,?_];have cl:∀{z} {d},List.lookup z [(y,c)]=some d->z=y/\d=c:=λ{z d} e=>by
   by_cases w:(z==y)=true
   .simp only[List.lookup,w] at e;ext e;apply#[eq_of_beq w,rfl]
   .simp only[List.lookup,(by simpa using w:(z==y)=false)] at e;ext e
  have cy:List.lookup y [(y,c)]=some c:=by simp[List.lookup]
  have tN:∀b:Addr,b∉(ua X A x y q sc f (.ref c') [(y,c)] s H).ex:=λb z=>absurd (show b∈([]:List Addr) from z) (by simp)
  have J:Inv (ua X A x y q sc f (.ref c') [(y,c)] s H) [] [some v0,some v1] H { s with heap:=CA,toks:=s.toks+[(x,u)].length }:=by
   refine#[#[I.ok.mod,S.kind,rfl,rfl,abD _,λa b d h1 h2=>?_,λa ha=>?_,(λa d h _=>by ext h),λhc=>?_,Around.frames_deeper (hA.trans I.ok.frames),.inr #[rfl,rfl],λb z=>absurd z (tN b),I.bs,af0 I.ok.jn I.sz,λb _ _=>tN b,λb z=>absurd z (tN b),I.stack,I.vj],
    rfl,I.bare,Un.kept yT,#[_,vC,λi z v h1 h2 h3=>?_],λz d e=>?_,I.aG.fresh (abD _),λz d e=>?_,λp hp=>absurd (show p∈([]:List (Addr×Obj)) from hp) (by simp),I.aG.kept yT,rfl,#[?_,I.hq.ok,I.hq.lm]]
   .exact(cl h1).1.trans (cl h2).1.symm
   .have ha:=ha;rcases ha with ha|ha
    .exact absurd rfl (S.zu _ (PySem.mem_of_lookup ha))
    .have e:a=y:=S.one _ (PySem.mem_of_lookup ha) rfl;rw[e];apply#[c,cy]
   .have:=I.ok.hd hc;apply hh.trans this
   .match i,h1,h2 with
    |0,h1,h2=>
     ext h1;ext h2;refine#[u,ru,.inl #[S.loc,by simp[List.lookup]]]
    |1,h1,h2=>
     ext h1;ext h2;let#[m,_,hl]:=I.loc;let#[u1,r1,l]:=hl j y v1 hj hv (.inr (.inl qp));refine#[u1,r1,.inr #[.inr S.yd,c,cy,?_]];rcases l with⟨kk,_⟩|⟨_,d,e,o,ho,hd⟩
     .rw[show X.env.kindOf y=some .cell from qp] at kk;ext kk
     .rw[ou] at e;ext e;apply#[o,yT _ _ ho,hd]
    |i+2,h1,h2=>apply absurd h2 (by simp)
   .rw[(cl e).2];let#[w,o,ho,hd]:=I.cell y c ou;apply#[w,o,yT _ _ ho,hd]
   .rw[(cl e).2];apply I.gU y c ou
   .have:=I.hq.hd;unfold ug at this ⊢;rw[show(ua X A x y q sc f (.ref c') [(y,c)] s H).A.handled=X.A.handled from hh];apply this
  refine kla_codeExpr (aeo (hb [] _ _ H _ J h) (?_) λ_ _ z=>z.elim)
  rintro v s' ⟨v',H',J',rv,q'⟩
  apply#[v',H',J'.os,J'.bare,J'.base,J'.aG,rv,q']
 .cases r with
  |error e=>apply z.elim
  |ok fl=>
   cases fl with
   |ret w=>apply I.after z
   |next=>apply z
   |brk=>apply z
   |cont=>apply z
def afe(r:aR [.int a,.int b] ay):∃t u,ay=[.int a t,.int b u]:=by
 cases r with
 |cons h1 r=>cases r with
  |cons h2 r=>ext r;let#[t,rfl]:=h1;let#[u,rfl]:=h2;apply#[t,u,rfl]
theorem IntsAre.at{vs:List Value}{ns:List Int}(h:IntsAre vs ns):∀{j:Nat} {v},vs[j]? = some v->∃n t,ns[j]? = some n/\v=.int n t:=by
 induction h with
 |nil=>intro j v e;simp at e
 |cons n t _ ih=>
  intro j v e;cases j with
  |zero=>ext e;apply#[n,t,rfl,rfl]
  |succ j=>apply ih (by simpa using e)
def Paired.ZK{α β:Type}{R:α->β->Prop}{l:List α}{m:List β}{a:α}{b:β}(h:Paired R l m)(r:R a b):Paired R (l++[a]) (m++[b]):=by
 induction h with
 |nil=>apply .cons r .nil
 |cons r' _ ih=>apply .cons r' ih
theorem NW(h:IntsAre ay ns):∀(l:List Nat),(∀i∈l,i<ns.length)->aR ((l.map λi=>ns.getD i 0).map V.int) (l.map λi=>ay.getD i Value.none)
 |[],_=>.nil
 |i::l,hl=>by
  have hi:=hl i aah;have Pa:i<ay.length:=by rw[h.length];apply hi
  let#[n,t,e1,e2]:=IntsAre.at h (abm Pa);refine .cons ?_ (NW h l λj m=>hl j (aab _ m));show RelV (V.int (ns.getD i 0)) (ay.getD i Value.none);rw[adA,adA,e1,abm Pa,e2];apply#[t,rfl]
def ab8{ns:List Int}{q:Array Nat}(P:a_ ns.length q):(q.toList.map λi=>ns.getD i 0).Perm ns:=by
 have h:=(ah7.mp P).map λi=>ns.getD i 0
 have e:((List.range ns.length).toArray.toList.map λi=>ns.getD i 0)=ns:=by
  refine List.ext_getElem (by simp) λi h1 h2=>?_
  simp[adA,h2]
 rw[e] at h;apply h
section
variable{j:Nat}{te:Addr->Addr->Shared->Hp->TE}
def aan{H2:Hp}{p f c':Addr}{i0 pm:Value}{v1:V}{ns:List Int}{pr:Int->Int×Int}{Q:VK}(I:Inv X ((f,kla_obj "<lambda>" q args body sc [(y,c)] pm c' i0)::af) U H2 s)(S:Ce sc args x y)(hc:H2 c'=some (.jq q))
  (ou:X.env.cells.lookup y=some c) (hj:X.N[j]? = some y) (hv:U[j]? = some (some v1)) (qp:X.env.scope.names.lookup y=some .cell) (yg:X.A.in1.in1.depth<recursionLimit)
  (hb:∀f c' s H,PE (ua X X.A.in1.in1 x y q sc f (.ref c') [(y,c)] s H) body (te f c' s H)) (hq:bY X.K H2 p (ns.map V.int)) (lY:ns.length<64) (nd:(ns.map pr).Nodup)
  (ht:∀s H3,aI H2 H3->∀n∈ns,te f c' s H3 [some (.int n),some v1] H3 λv H4=>∃k,v=.ref k/\cE X.K H4 k [.int (pr n).1,.int (pr n).2]/\aI H3 H4)
  (hQ:∀(Hf) (D) (eY:List Int),aI H2 Hf->H2 D=none->Hf D=some (.lst (eY.map V.int))->eY.Perm ns->eY.Pairwise (λa b=>lex (pr a) (pr b)=true)->Q (.ref D) Hf) :
  wpAny (model X.prog X.w) X.A (call (.builtin "sorted") [.ref p] [(Str.ofString "key",.ref f)]) (EP X af U Q) X.xe s:=by
 let#[ay,ri,pl,hz]:=I.list hq;have hi:=intsAre_of ri;have li:=hi.length;have zl:ay.length<=sizeLine:=by rw[aga];lia
 refine call_function_entry_kw kind_sorted plain_sorted entry_sorted (ksk_s1 _ _) ?_;unfold Builtin.«sorted»;refine aaN (acp ?_);refine aaN (collect_list pl.isList ?_ zl);refine aaN (wpAny_newList ?_ zl);generalize LQ:(s.heap.push (seqObj "list" ([].toArray) 0)).update s.heap.objs.size (Obj.mapSeq (·++ay.toArray))=h3;have k3:∀b o,s.heap.get? b=some o->h3.get? b=some o:=λb o e=>by
  rw[<- LQ,ah3 _ _ _ _ (acV (abh e))];apply aaA _ e
 have z3:h3.objs.size=s.heap.objs.size+1:=by rw[<- LQ,Heap.size_update,size_push']
 have hD:(h3.push (seqObj "list" ay.toArray 0)).get? h3.objs.size=some (seqObj "list" ay.toArray 0):=ab4 _ rfl;refine aaN (agJ (wpAny_call_entry_kw slot_list_sort #[_,hD,rfl] entry_list_sort ?body (ksk_l1 _ _)))
 case body=>
  rw[ksk_t1];obtain⟨e1,T9⟩:∃e1,((h3.push (seqObj "list" ay.toArray 0)).update h3.objs.size (Obj.mapSeq λ_=>(([].toArray):Array Value))).get? h3.objs.size=some (seqObj "list" ([].toArray) e1):=#[_,get?_update_seq hD λ_=>([].toArray)]
  unfold ksk_tree;refine aaN (listItems_at hD rfl ?_);refine aaN (listUpdate_at hD rfl ?_ (by rw[abK];apply zl) (ade _));refine aaN (seqEpoch_at T9 rfl ?_);refine aaN (wpAny_newTuple ?_ (by show ay.length<=_;apply zl));refine aaN (wpAny_newList ?_ (ade _));refine agJ ?_;generalize Ik:((h3.push (seqObj "list" ay.toArray 0)).update h3.objs.size (Obj.mapSeq λ_=>(([].toArray):Array Value))).push (seqObj "tuple" ay.toArray 0)=h6;have z6:h6.objs.size=s.heap.objs.size+3:=by rw[<- Ik,size_push',Heap.size_update,size_push',z3]
  have k6:∀b o,s.heap.get? b=some o->h6.get? b=some o:=λb o e=>by
   have eT:=abh e;rw[<- Ik];refine aaA _ ?_;rw[ah3 _ _ _ _ (acV (ac9 eT (by rw[z3];apply Nat.le_succ _)))];apply aaA _ (k3 b o e)
  have hD6:h6.get? h3.objs.size=some (seqObj "list" ([].toArray) e1):=by rw[<- Ik];apply aaA _ T9
  generalize hDe:h3.objs.size=D at *;generalize hKe:h6.objs.size=kS at *;have fD:=I.sD (H':=λ_=>none) (b:=D) (by lia) rfl;have fK:=I.sD (H':=λ_=>none) (b:=kS) (by lia) rfl;have Hl:D≠kS:=by lia
  have Eu:∀{H:Hp}{s':Shared} {b} {o},iZ X ((f,kla_obj "<lambda>" q args body sc [(y,c)] pm c' i0)::af) (λ_=>none) b->H b=none->s'.heap.get? b=some o->(∀v,o.data≠.cell v)->
    s'.heap.get? b=some o/\H b=none/\b≠X.env.locals/\b∉X.fs/\∀v,o.data≠.cell v:=λF a b d=>#[b,a,F.2.1,F.2.2.1,d]
  have J0:Inv X ((kS,seqObj "list" (List.map Value.ref []).toArray 0)::(D,seqObj "list" ([].toArray) e1)::(f,kla_obj "<lambda>" q args body sc [(y,c)] pm c' i0)::af) U H2 { s with heap:=h6.push (seqObj "list" ([].toArray) 0) }:=by
   have J:=I.kept (h':=h6.push (seqObj "list" ([].toArray) 0)) (t':=s.toks) λb o e=>aaA _ (k6 b o e)
   refine J.rS λp hp=>?_
   rcases aaO.mp hp with rfl|hp
   .exact Eu fK (I.aG.fresh (by lia)) (by rw[<- hKe];apply ab4 _ rfl) (λv z=>by ext z)
   .rcases aaO.mp hp with rfl|hp
    .exact Eu fD (I.aG.fresh (by lia)) (aaA _ hD6) (λv z=>by ext z)
    .exact J.pin p (aaS _ hp)
  unfold ksk_rest;refine aaN (wpAny_rule ?_);rw[List.forIn_toArray];refine aaN (ksk_fold (λi s'=>∃(H:Hp) (qs:List Addr) (e:Nat),Inv X ((kS,seqObj "list" (qs.map Value.ref).toArray e)::(D,seqObj "list" ([].toArray) e1)::(f,kla_obj "<lambda>" q args body sc [(y,c)] pm c' i0)::af) U H s'/\aI H2 H/\
   Paired (λk n=>cE X.K H k [.int (pr n).1,.int (pr n).2]) qs (ns.take i)) ay 0 _ #[H2,[],0,J0,aI.refl _,.nil] (λi u s' hu hI=>?_) λs' hI=>?_)
  .rw[Nat.zero_add] at hI ⊢;let#[H,qs,e,J,sm,pd]:=hI;let#[n,t,en,rfl]:=IntsAre.at hi hu;have ln:=Paired.length pd;have o8:=(ac0.mp en).1;rw[ah9] at ln;refine aaN (wpAny_attempt (aeo (Yt (v0:=.int n) (E:=λ_ _=>False) J S (aab _ (aab _ aah)) (sm _ _ hc) ou hj hv qp #[t,rfl] rfl rfl yg (hb f c' s' H) (ht s' H sm n (ag2 en))) (λk h_ hk=>?_) λ_ _ z=>z.elim));let#[v,H',J',rv,k',rfl,sq,xR]:=hk;obtain rfl:k=.ref k':=rv;have pk:=(J'.pin _ (aaS _ aah))
   have ea:((qs.map Value.ref).toArray).push (.ref k')=((qs++[k']).map Value.ref).toArray:=by simp
   obtain⟨c2,JF⟩:∃c2,(h_.heap.update kS (Obj.mapSeq (·.push (.ref k')))).get? kS=some (seqObj "list" ((qs++[k']).map Value.ref).toArray c2):=#[_,by rw[<- ea];apply get?_update_seq pk.1 (·.push (.ref k'))]
   dsimp only;refine aaN (listUpdate_at pk.1 rfl ?_ (by rw[abK,List.length_map,ln,aga];lia) (af0 (Nat.le_of_eq (Array.size_push ..)) (by rw[abK,List.length_map,ln,aga];lia)));refine acp #[rfl,H',qs++[k'],c2,?_,sm.trans xR,?_]
   .have J1:=J'.rS λp hp=>J'.pin p (aaS _ (aab _ hp))
    have J2:=J1.turned (h':=h_.heap.update kS (Obj.mapSeq (·.push (.ref k')))) (t':=h_.toks) (λb o n e=>(ah3 _ _ _ _ n).trans e) pk.2.1 fK.2.1 fK.2.2.2.1 fK.2.2.2.2.1 λp hp=>by
     rcases abC.mp hp with hp|hp
     .exact fK.2.2.2.2.2 p (aa4 _ hp)
     .rcases aaO.mp hp with rfl|hp
      .exact Hl
      .exact fK.2.2.2.2.2 p (aaS _ hp)
    refine J2.rS λp hp=>?_
    rcases aaO.mp hp with rfl|hp
    .exact Eu fK pk.2.1 JF (λv z=>by ext z)
    .exact J2.pin p (aaS _ hp)
   .rw[List.take_succ,en];apply Paired.ZK (Paired.Bv pd λk n r=>by
     rcases r with(r|⟨o,r⟩)|r
     .exact .inl (.inl (xR _ _ r))
     .exact .inl (.inr #[o,xR _ _ r])
     .exact .inr r) sq
  .rw[Nat.zero_add] at hI;let#[H,qs,e,J,sm,pd]:=hI;rw[li,List.take_length] at pd;have lq:=Paired.length pd;have pk:=(J.pin _ (aaS _ aah))
   have pD:=(J.pin _ (aaS _ (aab _ aah)))
   refine aaN (listItems_at pk.1 rfl ?_);have pp:∀{l} {qs},Paired (λk n=>cE X.K H k [.int (pr n).1,.int (pr n).2]) qs l->Paired (IsPair s'.heap) qs (l.map pr):=by
    intro l qs r
    induction r with
    |nil=>apply .nil
    |cons r _ ih=>
     refine .cons ?_ ih;let#[it,rv,tp,_]:=J.tuple r;let#[t,u,rfl]:=afe rv;apply#[t,u,tp]
   refine ab5 (by lia) (by rw[lq,li]) (pp pd) nd pk.1 pD.1 Hl λq2 P2 S2=>?_
   rw[li] at P2 S2;have ql:∀i∈q2.toList,i<ns.length:=λi m=>by
    have:=(ah7.mp P2).mem_iff.mp m;simpa using this
   refine#[_,rfl,acp #[_,rfl,?_]];have J1:=J.rS λp hp=>J.pin p (aaS _ (aab _ (aab _ (aab _ hp))))
   have np:∀{b},iZ X ((f,kla_obj "<lambda>" q args body sc [(y,c)] pm c' i0)::af) (λ_=>none) b->∀p∈X.pn++af,p.1≠b:=λF p hp=>F.2.2.2.2.2 p ((abC.mp hp).elim (λz=>aa4 _ z) λz=>aaS _ (aab _ z))
   have J2:=J1.turned (h':=s'.heap.update kS (Obj.mapSeq λ_=>([].toArray))) (t':=s'.toks) (λb o n e=>(ah3 _ _ _ _ n).trans e) pk.2.1 fK.2.1 fK.2.2.2.1 fK.2.2.2.2.1 (np fK);have J3:=J2.turned (h':=(s'.heap.update kS (Obj.mapSeq λ_=>([].toArray))).update D (Obj.mapSeq λ_=>(q2.toList.map λi=>ay.getD i Value.none).toArray)) (t':=s'.toks) (λb o n e=>(ah3 _ _ _ _ n).trans e) pD.2.1 fD.2.1 fD.2.2.2.1 fD.2.2.2.2.1 (np fD);have hDf:=get?_update_seq (h:=s'.heap.update kS (Obj.mapSeq λ_=>([].toArray))) ((ah3 _ _ _ _ Hl).trans pD.1) λ_=>(q2.toList.map λi=>ay.getD i Value.none).toArray
   refine#[.ref D,upd H D (.lst ((q2.toList.map λi=>ns.getD i 0).map V.int)),J3.CT pD.2.1 #[?_,fD.2.1,fD.2.2.2.2.1,np fD] #[?_,_,_,NW hi _ ql,hDf],rfl,hQ _ D _ (λb o e=>?_) ?_ bX (ab8 P2) ?_]
   .exact aiH (by have:=I.sz;lia)
   .rw[List.length_map,List.length_map,af8,a_.sz P2,aga];lia
   .rw[aN (cX (sm b o e) pD.2.1)];apply sm b o e
   .cases e:H2 D with
    |none=>rfl
    |some o=>have:=sm D o e;rw[pD.2.1] at this;ext this
   .rw[aiK];intro i k hi hk hik;have hq:∀i,i<ns.length->(hx:i<(q2.toList.map λi=>ns.getD i 0).length)->pr ((q2.toList.map λi=>ns.getD i 0)[i])=(ns.map pr).getD (q2.getD i 0) (0,0):=λi hi hx=>by
     have hs:i<q2.size:=by rw[a_.sz P2];apply hi
     have eT:=a_.lt P2 hi;rw[List.getElem_map,getD_at hs];rw[getD_at hs] at eT;simp[adA,eT]
    have hz:(q2.toList.map λi=>ns.getD i 0).length=ns.length:=by rw[List.length_map,af8,a_.sz P2]
    rw[hq i (by lia) hi,hq k (by lia) hk];apply S2 i k hik (by lia)
def RU(K:Fr)(j:Nat)(te:Addr->Addr->Shared->Hp->TE)(U:St)(Q:VK)(x:V)(H1:Hp):Prop:=∃(p:Addr) (ns:List Int) (pr:Int->Int×Int) (v1:V),x=.ref p/\bY K H1 p (ns.map V.int)/\ns.length<64/\(ns.map pr).Nodup/\U[j]? = some (some v1)/\
 (∀f c' s H3,aI H1 H3->∀n∈ns,te f c' s H3 [some (.int n),some v1] H3 λv H4=>∃k,v=.ref k/\cE K H4 k [.int (pr n).1,.int (pr n).2]/\aI H3 H4)/\
 ∀(Hf) (D) (eY:List Int),aI H1 Hf->H1 D=none->Hf D=some (.lst (eY.map V.int))->eY.Perm ns->eY.Pairwise (λa b=>lex (pr a) (pr b)=true)->Q (.ref D) Hf
def tSK(K:Fr)(j:Nat)(ta:TE)(te:Addr->Addr->Shared->Hp->TE):TE:=λU H Q=>ta U H (RU K j te U Q)
def UM{a:Expr}{ta:TE}{p kp pos jW:Pos}{f0:Addr}{o0:Obj}(hm:X.mg "sorted"=none)(ha:PE X a ta)(S:Ce sc args x y)(lk:X.K.lookup f0=some o0)(sh:vm o0=some (X.env.code,q,jW))(hq:X.env.qual++"<lambda>"=q)(wc:closureFor sc X.env=pure [(y,c)])
  (ou:X.env.cells.lookup y=some c) (hj:X.N[j]? = some y) (qp:X.env.scope.names.lookup y=some .cell) (yg:X.A.in1.in1.depth<recursionLimit) (hb:∀f c' s H,PE (ua X X.A.in1.in1 x y q sc f (.ref c') [(y,c)] s H) body (te f c' s H))
  (z9:defaultsOf args X.env=([],[]):=by rfl) (hg:Gl X "sorted":=by rfl) (hs:starEach [a] X.env=[(false,eval a X.env)]:=by rfl)
  (h1:backTo pos (starEach [a] X.env)=(false,eval a X.env)::backTo pos (starEach [] X.env):=by rfl) (h2:(backTo pos (starEach [a] X.env)).any (·.1)=false:=by rfl)
  (h3:(backToKw pos (keywordEach [#[some "key",.Lambda args body sc jW,kp]] X.env)).all (·.1.isSome)=true:=by rfl) (h4:(backToKw pos (keywordEach [#[some "key",.Lambda args body sc jW,kp]] X.env)).any (·.1.isNone)=false:=by rfl)
  (h5:(backToKw pos (keywordEach [#[some "key",.Lambda args body sc jW,kp]] X.env)).filterMap (·.1)=[("key":Str)]:=by rfl) :
  PE X (.Call (.Name "sorted" p) [a] [#[some "key",.Lambda args body sc jW,kp]] pos) (tSK X.K j ta te):=by
 intro af s U H Q I h;refine agj (pN I hg hm (show bootBuiltins "sorted"=some (.builtin "sorted") by decide +kernel) ?_ (by decide) (by decide));refine callWith_kw ?_ h1 h2 h3 h4;rw[h5];refine y9 (cV ha fq hs pos af s U H (λvs H1=>match vs with|[x]=>RU X.K j te U Q x H1|_=>False) I h) λus s1 vs H1 I1 rv q1=>?_
 rcases vs with _|⟨x,_|⟨x2,r2⟩⟩
 .exact q1.elim
 .let#[u,rfl,ru]:=vals1 rv;let#[p,ns,pr,v1,rfl,oj,lY,nd,hv,ht,hQ]:=q1;ext ru;refine kws_cons (XA I1 lk sh z9 wc hq λf c' i0 pm H' s' J sm hc=>kws_nil ?_);refine aan J S hc ou hj hv qp yg hb (oj.elim (λz=>.inl (z.elim (λz=>.inl (sm _ _ z)) λ⟨o,z⟩=>.inr #[o,sm _ _ z])) .inr) lY nd (λs H3 xR=>ht f c' s H3 (sm.trans xR)) λHf D eY s1 n1=>hQ Hf D eY (sm.trans s1) ?_
  cases e:H1 D with
  |none=>rfl
  |some o=>have:=sm D o e;rw[n1] at this;ext this
 .exact q1.elim
end
end L2
namespace L2.Ev
open PySem PySem.Spec PyProof.Rows
def vz(pr:Int->Int×Int)(x:Int):List Int->List Int
 |[]=>[x]
 |y::r=>if lex (pr x) (pr y)=true then x::y::r else y::vz pr x r
def ir(pr:Int->Int×Int):List Int->List Int
 |[]=>[]
 |x::r=>vz pr x (ir pr r)
theorem K9(x:Int):∀l:List Int,(vz pr x l).Perm (x::l)
 |[]=>.refl _
 |y::r=>by
  unfold vz
  split
  .exact .refl _
  .exact((K9 x r).cons y).trans (.swap x y r)
theorem qy:∀l:List Int,(ir pr l).Perm l
 |[]=>.refl _
 |x::r=>(K9 x (ir pr r)).trans ((qy r).cons x)
def lex_trans(h:lex a b=true)(g:lex b c=true):lex a c=true:=by
 have h:=aaK h;have g:=aaK g;apply aaC (by lia)
def U1(h:a≠b)(g:¬lex a b=true):lex b a=true:=by
 have n2:¬(a.1=b.1/\a.2=b.2):=λz=>h (Prod.ext z.1 z.2)
 have g:¬(a.1<b.1\/a.1=b.1/\a.2<b.2):=λz=>g (aaC z)
 apply aaC (by omega)
theorem Rq(x:Int):∀{l},(∀y∈l,pr x≠pr y)->l.Pairwise (λa b=>lex (pr a) (pr b)=true)->(vz pr x l).Pairwise (λa b=>lex (pr a) (pr b)=true)
 |[],_,_=>ahA _ _
 |y::r,n,h=>by
  let#[h1,h2]:=aew.mp h;unfold vz
  split
  .rename_i hx;apply aew.mpr #[λz m=>(aaO.mp m).elim (λe=>e ▸ hx) λm=>lex_trans hx (h1 z m),h]
  .rename_i hx;refine aew.mpr #[λz m=>?_,Rq x (λy m=>n y (aab _ m)) h2];rcases aaO.mp ((K9 x r).mem_iff.mp m) with e|m
   .rw[e];apply U1 (n y aah) hx
   .exact h1 z m
theorem GZ:∀{l},(l.map pr).Nodup->(ir pr l).Pairwise (λa b=>lex (pr a) (pr b)=true)
 |[],_=>.nil
 |x::r,n=>by
  rw[aaB] at n;let#[n1,n2]:=ab6.mp n;apply Rq x (λy m e=>n1 (acg.mpr #[y,(qy r).mem_iff.mp m,e.symm])) (GZ n2)
def Q5(p:a.Perm b)(n:(b.map pr).Nodup)(s:a.Pairwise (λa b=>lex (pr a) (pr b)=true)):a=ir pr b:=by
 have q:a.Perm (ir pr b):=p.trans (qy b).symm;refine q.eq_of_pairwise (λx y _ _ h1 h2=>?_) s (GZ n);have h1:=aaK h1;have h2:=aaK h2
 lia
def qU(fb:EF)(dc:D)(n:Int):Option (Int×Int):=match fb [some (.int n,.own),some (dc,.sh [])] with
 |some (.tup [.int a,.int b],_)=>some (a,b)
 |_=>none
def uI(fb:EF)(dc:D)(n:Int):Int×Int:=(qU fb dc n).getD (0,0)
def JB(j:Nat)(fa fb:EF):EF:=λY=>match fa Y,Y[j]? with
 |some (.lst ds,_),some (some (dc,_))=>match eF ds with
  |some ns=>if ns.length<64/\(ns.map (uI fb dc)).Nodup/\∀n∈ns,(qU fb dc n).isSome=true then some (.lst ((ir (uI fb dc) ns).map D.int),.own) else none
  |none=>none
 |_,_=>none
def Uz(j:Nat)(hm:X.mg "sorted"=none)(ha:FP X a fa)(S:Ce sc args x y)(lk:X.K.lookup f0=some o0)(sh:vm o0=some (X.env.code,q,jW))(yg:X.A.in1.in1.depth<recursionLimit)
  (hb:∀f c' s H,FP (ua X X.A.in1.in1 x y q sc f (.ref c') [(y,c)] s H) body fb) (hq:X.env.qual++"<lambda>"=q:=by rfl) (wc:closureFor sc X.env=pure [(y,c)]:=by rfl)
  (ou:X.env.cells.lookup y=some c:=by rfl) (hj:X.N[j]? = some y:=by rfl) (qp:X.env.scope.names.lookup y=some .cell:=by rfl)
  (z9:defaultsOf args X.env=([],[]):=by rfl) (hg:Gl X "sorted":=by rfl) (hs:starEach [a] X.env=[(false,eval a X.env)]:=by rfl)
  (h1:backTo pos (starEach [a] X.env)=(false,eval a X.env)::backTo pos (starEach [] X.env):=by rfl) (h2:(backTo pos (starEach [a] X.env)).any (·.1)=false:=by rfl)
  (h3:(backToKw pos (keywordEach [#[some "key",.Lambda args body sc jW,kp]] X.env)).all (·.1.isSome)=true:=by rfl) (h4:(backToKw pos (keywordEach [#[some "key",.Lambda args body sc jW,kp]] X.env)).any (·.1.isNone)=false:=by rfl)
  (h5:(backToKw pos (keywordEach [#[some "key",.Lambda args body sc jW,kp]] X.env)).filterMap (·.1)=[("key":Str)]:=by rfl) :
  FP X (.Call (.Name "sorted" p) [a] [#[some "key",.Lambda args body sc jW,kp]] pos) (JB j fa fb):=by
 let#[ta,pa,sa]:=ha;refine#[_,UM hm pa S lk sh hq wc ou hj qp yg (λf c' s H=>(hb f c' s H).choose_spec.1) z9 hg hs h1 h2 h3 h4 h5,@λH0 S' z au Y U H Q d tg ok e k=>?_];unfold JB at e
 split at e
 .rename_i ds t1 dc t2 e1 e2
  split at e
  .rename_i ns vC
   split at e
   .rename_i hc;ext e;let#[lY,nd,hk]:=hc;refine sa ok e1 λH1 v fp s1 r1 g1=>?_
    let#[l,xs,f',rfl,oj,rs,_]:=r1.d_;have ex:=tR rs vC;subst ex;let#[vc,fc,hvc,rc,_]:=ok.sl j dc t2 e2;refine#[l,ns,uI fb dc,vc,rfl,oj,lY,nd,hvc,λf c' s H3 s3 n mn=>?_,λHf D eY sf nD hD pm st=>?_]
    .let#[kk,ek]:=afS.mp (hk n mn);have CV:=ek;unfold qU at CV
     split at CV
     .rename_i a b tb eb;ext CV;have j9:Ok X.K H3 [] (λ_=>none) [] [some (.int n,.own),some (dc,.sh [])] [some (.int n),some vc] H3:=by
       refine#[λi d t e=>?_,(λp m=>nomatch m),(λa j e=>nomatch e),λa o e _=>e,rfl]
       match i,e with
       |0,e=>ext e;apply#[_,[],rfl,.int n,ac6,λa m=>nomatch m]
       |1,e=>ext e;apply#[vc,fc,rfl,(rc.same s1).same s3,λa m j e=>nomatch e]
       |i+2,e=>apply absurd e (by simp)
      refine(hb f c' s H3).choose_spec.2 j9 eb λH4 v fp s4 r4 _=>?_
      let#[w,xs,rfl,hw,eB]:=r4.jB;refine#[w,rfl,?_,s4];have e1:(uI fb dc n)=(a,b):=by unfold uI;rw[ek];rfl
      rw[e1];cases eB with
      |cons h1 r=>cases r with
       |cons h2 r=>ext r;ext h1;ext h2;apply hw
     .cases CV
    .have eq:=Q5 pm nd st;subst eq;refine k Hf _ [D] (s1.trans sf) (.lst hD (zo _)) #[ab6.mpr #[(λm=>nomatch m),ac6],λa m=>?_];cases aav.mp m;apply s1.free nD
   .cases e
  .cases e
 .cases e
def FY(X:Cx)(e:Expr)(f:XF):Prop:=∃t,PE X e t/\∀{H0} {S} {z} {au} {Y} {U} {H} {Q} {d} {Y'},
 Ok X.K H0 S z au Y U H->f Y=some (d,Y')->(∀z' H' v,Ok X.K H0 S z' au Y' U H'->bh H H'->Rep X.K H' d v []->Q v H')->t U H Q
def FY.fz(h:FY X e f):FZ X e f:=let#[t,p,q]:=h;#[t,p,@λH0 S z au Y U H Q d Y' ok e k=>q ok e λz' H' v o _ r=>k z' H' v o r]
def jI(i:Nat)(hC:ClsAt X.K cn C)(hm:mE X.K C m fa)(GG:b_ X.prog X.w X.K X.mg X.base dO k fa fd ps (dQ X.K G))(hr:bx k X.A)(hb:Binds X.K fd ps [])(ha:FA X (e::es) g)(va:VA X i x:=by walk_at "va")
  (eE:SE X e es pos:=by apply#[rfl,rfl])
  (ht:x6 X (.Name x p1) m apos (e::es) pos pl:=by apply rfl):FY X (.Call (.Attribute (.Name x p1) m apos) (e::es) [] pos) (xO i cn m G g):=by
 let#[ta,pa,_,qa]:=ha;refine#[_,Bl va.pe hC.cl hm GG hr hb .nil oE pa eE.1 eE.2 ht,@λH0 S z au Y U H Q d Y' ok e0 kk=>?_];let#[BJ,qs,d1,h1,h2,hm,xN,hG,rfl]:=OV e0;let#[v,bz,hs,r0,zz]:=ok.sl i _ _ h1;refine#[v,hs,?_];let#[b,dx,fs,gf,rfl,Ea,h4,h5,h6,h7]:=r0.nJ hC.ns;refine#[b,dx,fs,rfl,h4,vg h6 hm,?_];refine qa ok h2 λH2 vs nR s2 r2 g2=>?_
 rw[acw];refine#[b,vs,_,bz,_,nR,d,d1,rfl,r0.same s2,zz.1,r2,FU ok xN g2 zz,hG,λH3 u bV im kp r1 nd fr rr=>?_];let#[z',j9]:=(ok.same s2).put h1 hs zz im kp r1 nd fr;apply kk z' H3 u j9 ((bh.of s2).trans im) rr
def Aj(i:Nat)(cn fl iI m:Str)(G:MF)(g:AF):XF:=λY=>match Y[i]?,g Y with
 |some (some (.ins c es,.own)),some ps=>match es.lookup fl with
  |some (.ins c2 iA)=>if c=cn/\c2=iI/\iA.lookup m=none/\apart i ps=true then(G (.ins c2 iA) (ps.map (·.1))).map λw=>(w.1,cP Y i (.ins c (dY fl w.2 es))) else none
  |_=>none
 |_,_=>none
def agr(i:Nat)(hC:ClsAt X.K cn C)(na:jd X.K C fl)(zB:ClsAt X.K iI C2)(hm:mE X.K C2 m fa)(GG:b_ X.prog X.w X.K X.mg X.base dO k fa fd ps (dQ X.K G))(hr:bx k X.A)(hb:Binds X.K fd ps [])(ha:FA X (e::es) g)(va:VA X i x:=by walk_at "va")
  (DF:attributeBase (.Name x p1) fl X.env (eval (.Name x p1) X.env)=eval (.Name x p1) X.env:=by rfl)
  (eE:SE X e es pos:=by apply#[rfl,rfl])
  (ht:x6 X (.Attribute (.Name x p1) fl p2) m apos (e::es) pos pl:=by apply rfl):FY X (.Call (.Attribute (.Attribute (.Name x p1) fl p2) m apos) (e::es) [] pos) (Aj i cn fl iI m G g):=by
 let#[ta,pa,_,qa]:=ha;refine#[_,Bl (sy va.pe DF) zB.cl hm GG hr hb .nil oE pa eE.1 eE.2 ht,@λH0 S z au Y U H Q d Y' ok e0 kk=>?_];unfold Aj at e0
 split at e0
 .rename_i c es1 qs h1 h2
  split at e0
  .rename_i c2 iA hl
   by_cases hc:c=cn/\c2=iI/\iA.lookup m=none/\apart i qs=true
   .rw[if_pos hc] at e0;let#[rfl,rfl,hlm,xN]:=hc;let#[w,hG,ew]:=adq.mp e0;ext ew;let#[v,bz,hs,r0,zz]:=ok.sl i _ _ h1;refine#[v,hs,?_];let#[b0,dx,fs,u,gf,rfl,a1,a2,a3,a4,a5,a6]:=r0.place hC.ns zz.1 hl;refine#[b0,C,dx,fs,u,rfl,a1,hC.cl,na,a2,?_];let#[b,Xk,fs2,g2,rfl,Ea,c4,c5,c6,c7]:=a3.nJ zB.ns;refine#[b,Xk,fs2,rfl,c4,vg c6 hlm,?_];refine qa ok h2 λH2 vs nR s2 r2 gg=>?_
    rw[acw];refine#[b,vs,_,gf,_,nR,w.1,w.2,rfl,a3.same s2,a4,r2,λx m n=>FU ok xN gg zz x m (a5 x n),hG,λH3 u' bV im kp r1 nd fr rr=>?_];have i3:=(bh.of s2).trans im;have k3:∀b o,b∉gf->H b=some o->H3 b=some o:=λb o n e=>kp b o n (s2 b o e)
    let#[Jj,k1,k2,k4]:=a6 H3 w.2 bV i3 k3 r1 nd λb m=>(fr b m).imp id s2.free
    let#[z',j9]:=ok.put h1 hs zz i3 (λb o n e=>k3 b o (λm=>n (a5 b m)) e) k1 k2 k4;apply kk z' H3 u' j9 i3 rr
   .rw[abo hc] at e0;ext e0
  .cases e0
 .cases e0
def tZ(f:XF):aU->Option (Bool×aU):=λY=>match f Y with
 |some (.bl b,Y')=>some (b,Y')
 |_=>none
def YD(h:FZ X a f)(he:∀whole,isTrue a X.env whole=(do let v <- whole;standAt a.pos;holding [v] (truthy v)):=by intro _;rfl):vq X a (tZ f):=by
 let#[t,p,q]:=h;refine#[_,RL p he,@λH0 S z au Y U H Q c Y' ok e k=>?_];unfold tZ at e
 split at e
 .rename_i c' bf h1;ext e;refine q ok h1 λz' H' v bg r=>?_
  ext r;apply#[_,rfl,k z' H' bg]
 .cases e
def lV(c:aU->Option (Bool×aU))(f:SF):Nat->SF
 |0,_=>none
 |n+1,Y=>match c Y with
  |some (false,bf)=>some (.nx bf)
  |some (true,bf)=>match f bf with
   |some (.nx Y')=>lV c f n Y'
   |_=>none
  |none=>none
def WJ(n:Nat)(hc:vq X c tc)(hb:FS X body fb)(hp:PassesOwn (model X.prog X.w) X.A X.env X.xe:=by apply PassesOwn.never):fL X (.While c body [] pos) (lV tc fb n):=by
 let#[t,p,q]:=hc;let#[tb,pb,qb]:=hb;exists 23,Td hp p pb;refine#[λm aB H'=>∃z' Y',Ok X.K H0 S z' au Y' aB H'/\lV tc fb m Y'=some o/\Kp X U aB,#[n,z,Y,ok,e,.refl _ _],?_]
 rintro m aB H' ⟨z',Y',bg,e',kp⟩
 cases m with
 |zero=>ext e'
 |succ m=>
  unfold lV at e'
  split at e'
  .rename_i bf hc;ext e';refine q bg hc λz1 H1 cg=>?_
   rw[abo aa2];apply k z1 aB H1 cg kp
  .rename_i bf hc;refine q bg hc λz1 H1 cg=>?_
   rw[if_pos rfl]
   split at e'
   .rename_i bI hf;refine#[λiN H2=>∃z2 bI,Ok X.K H0 S z2 au bI iN H2/\lV tc fb m bI=some o/\Kp X U iN,λiN H2 hn=>#[m,aix m,hn],?_];apply qb cg hf λz3 dz H3 i_ b=>#[z3,bI,i_,e',kp.trans b]
   .cases e'
  .cases e'
def wz(f g:XF):XF:=λY=>match f Y with
 |some (.bl true,Y')=>some (.bl true,Y')
 |some (.bl false,Y')=>match g Y' with
  |some (.bl b,bI)=>some (.bl b,bI)
  |_=>none
 |_=>none
def UO(ha:FZ X a f)(hb:FZ X b g):FZ X (.BoolOp .Or [a,b] pos) (wz f g):=by
 let#[t,p,q]:=ha;let#[t',p',q']:=hb;refine#[_,acz p (RJ p'),@λH0 S z au Y U H Q d Y' ok e k=>?_];unfold wz at e
 split at e
 .rename_i bf h;ext e;refine q ok h λz1 H1 v cg r1=>?_
  ext r1;refine#[true,rfl,?_];rw[if_pos rfl];apply k z1 H1 _ cg (.bl _)
 .rename_i bf h
  split at e
  .rename_i c bI h2;ext e;refine q ok h λz1 H1 v cg r1=>?_
   ext r1;refine#[false,rfl,?_];rw[abo aa2];apply q' cg h2 k
  .cases e
 .cases e
end L2.Ev
namespace L2
open PySem PySem.Spec PyProof.Rows
section
variable{X:Cx}
def XZ{prog:Program}{w:World}{A:Around}{E:Value->Shared->Prop}{s:Shared}{Q:List Value->Shared->Prop}{r:Addr}{a b c:Int}{t u v:Tok}{n:Nat}(hh:A.handled=none)(hr:IsRange s.heap r a b c t u v)(IY:Builtin.Range.small a b c=true)
  (hn:Builtin.Range.rangeSize a b c=n) (hlen:n<=2 ^ 24)
  (hQ:∀h' tk (acc:Array Value),(∀b o,s.heap.get? b=some o->h'.get? b=some o)->ItemsOf (λi v=>∃t,v=.int (a+i*c) t) acc n->Q acc.toList { s with heap:=h',toks:=tk }) :
  wpAny (model prog w) A (collect (.ref r)) Q E s:=by
 unfold collect;refine aaN (wpAny_runValue (agF F.entry_proto_collect ?_));rw[afM F.plain_proto_collect _];show wpAny _ A.in1 (newList [] >>= λl=>again (.builtin "list.__iadd__" #[[l,.ref r],[]])) _ _ s;refine aaN (ahV ?_);refine acp #[aik F.plain_list_iadd _,agF F.entry_list_iadd ?_];rw[afM F.plain_list_iadd _];show wpAny _ A.in1 (Builtin.List.listExtendWith (.ref s.heap.objs.size) (.ref r) (.ref s.heap.objs.size)) _ _ _;have hS:(s.heap.push { cls:=.type "list",data:=.seq ([]:List Value).toArray }).get? s.heap.objs.size=some { cls:=.type "list",data:=.seq ([].toArray) 0 }:=ab4 _ rfl;have Mw:∀h' tk (acc:Array Value) c',(∀b o,b≠s.heap.objs.size->(s.heap.push { cls:=.type "list",data:=.seq ([]:List Value).toArray }).get? b=some o->h'.get? b=some o)->h'.get? s.heap.objs.size=some { cls:=.type "list",dict:=none,data:=.seq acc c',slots:=([].toArray) }->ItemsOf (λi v=>∃t,v=.int (a+i*c) t) acc n->
   wpAny (model prog w) A (match Value.ref s.heap.objs.size with
   |Value.ref a=>do
    match(<- load a).data with
     |Data.seq xs _=>pure xs.toList
     |_=>unsupported "internal:collect"
   |_=>unsupported "internal:collect") Q E { s with heap:=h',toks:=tk }:=λh' tk acc c' hk uP nk=>by
  show wpAny _ A (load s.heap.objs.size >>= _) _ _ _;refine aaN (wpAny_load uP ?_);apply acp (hQ h' tk acc (λb o hb=>hk b o (acV (abh hb)) (aaA _ hb)) nk)
 refine aeo (wpAny_extend_range (A:=A) (R:=λr s'=>r=.ok (.ret (.ref s.heap.objs.size))/\∃h' tk acc c',s'={ s with heap:=h',toks:=tk }/\(∀b o,b≠s.heap.objs.size->(s.heap.push { cls:=.type "list",data:=.seq ([]:List Value).toArray }).get? b=some o->h'.get? b=some o)/\h'.get? s.heap.objs.size=some { cls:=.type "list",dict:=none,data:=.seq acc c',slots:=([].toArray) }/\ItemsOf (λi v=>∃t,v=.int (a + i * c) t) acc n)
  (s:={ s with heap:=s.heap.push { cls:=.type "list",data:=.seq ([]:List Value).toArray } }) hh (aaA _ hr) IY hn hlen _ _ 0 hS λh' tk acc c' hk uP nk=>#[rfl,h',tk,acc,c',rfl,hk,uP,nk]) (λfin s' h=>?_) (λe s' h=>?_)
 .cases fin with
  |done f=>
   let#[e,h',tk,acc,c',rfl,x1,x2,x3]:=h;ext e;apply Mw h' tk acc c' x1 x2 x3
  |again c'=>apply#[h.1,aiL h.2 λr h_ hr=>by let#[rfl,h',tk,acc,c',rfl,x1,x2,x3]:=hr;apply Mw h' tk acc c' x1 x2 x3]
 .exact absurd h.1 (by simp)
def ad1(r:Addr)(a b c:Int)(t u v:Tok)(n:Nat)(IY:Builtin.Range.small a b c=true)(hn:Builtin.Range.rangeSize a b c=n)(hlen:n<=sizeLine):
  Meets (Builtin.«tuple.__new__» #[[.type "tuple",.ref r],[]])
   (λA R s=>A.handled=none/\IsRange s.heap r a b c t u v/\∀(h':Heap) tk (acc:Array Value),(∀b o',s.heap.get? b=some o'->h'.get? b=some o')->ItemsOf (λi v=>∃t,v=.int (a+i*c) t) acc n->R (.ok (.ret (.ref h'.objs.size))) { s with heap:=h'.push { cls:=.type "tuple",data:=.seq acc },toks:=tk }):=
 .of_wp λprog w A R s h=>by
  let#[hp,g,d,tk,os]:=s;let#[hh,hr,h]:=h;have BE:=sub_tuple_self;have ah8:=init_tuple_lookup;have hmh:=madeHere_tuple;have hT:Shared.TypeIs #[hp,g,d,tk,os] (.ref r) "range":=#[_,hr,rfl]
  wp_walk using AutoSeq1.wpAny_loadPart' hr,wpAny_typeOf hT,XZ (A:=A.in1) hh hr IY hn (by rw[aga] at hlen;omega)
  intro h' rZ acc hk nk;show wpAny _ _ (Builtin.Tuple.tupleExact acc.toList.toArray >>= λv=>ret v) _ _ _;unfold Builtin.Tuple.tupleExact;refine aaN (ahV ?_ (by show acc.toList.toArray.size<=sizeLine;rw[Array.toArray_toList,nk.1];apply hlen));refine acp #[_,rfl,?_];rw[Array.toArray_toList];apply h h' rZ acc hk nk
def ag9(hc:X.calm=true):gI X (.type "tuple") (λxs H Q=>∃p i j,xs=[V.ref p]/\H p=some (.aJ i j)/\(-(2 ^ 20)<=i/\i<2 ^ 20/\-(2 ^ 20)<=j/\j<2 ^ 20)/\(j-i).toNat<=sizeLine/\∀l,H l=none->Q (.ref l) (upd H l (.tup ((List.range (j-i).toNat).map λn:Nat=>V.int (i+n))))):=by
 intro af s U H xs us Q I r h;let#[p,i,j,rfl,hp,hb,hz,q]:=h;let#[u,rfl,ru]:=vals1 r;ext ru;let#[t,u',v,hr]:=(show ∃t u v,s.heap.get? p=some { cls:=.type "range",data:=.fields ([.int i t,.int j u,.int 1 v].toArray) } from I.aG p _ hp)
 have e2:Builtin.Range.rangeSize i j 1=((j-i).toNat:Int):=by rw[rangeSize_one];split<;>omega
 refine callType_new F.called_tuple (by decide) (F.typeCall_tuple_1 _) (F.newCall_tuple_1 _) (λobj=>F.args_object_init_2 obj _) F.entry_tuple_new
  (ad1 p i j 1 t u' v (j-i).toNat (small_one (by omega) (by omega) (by omega) (by omega)) e2 hz) #[I.ok.hd hc,hr,λh' tk acc hk nk=>#[#[_,ab4 _ rfl,rfl],?_]]
 let#[az,av]:=nk;have vv:aR ((List.range (j-i).toNat).map λn:Nat=>V.int (i+n)) acc.toList:=by
  rw[List.range_eq_range'];refine PB (k:=0) (by simpa using az) λm w e=>?_
  let#[t,e]:=av m w (by simpa using e);apply#[t,by rw[e];simp]
 have I1:Inv X af U H { s with heap:=h',toks:=tk }:=I.kept (t':=tk) hk;apply#[.ref h'.objs.size,_,I1.laid (h':=h'.push { cls:=.type "tuple",data:=.seq acc }) (t':=tk) (λb o e=>aaA _ e) (abD _) (show dJ X.prog X.w _ _ _ (.tup _) from#[by rw[List.length_map,List.length_range];apply hz,acc.toList,vv,by simpa using kZ.new h' acc]),rfl,q _ (I1.aG.fresh (abD _))]
end
end L2
namespace L2.Ev
open PySem PySem.Spec PyProof.Rows
section
variable{X:Cx}{a b e:Expr}{fa fb:EF}{p p1 p2 p3 pos:Pos}
def Cg(g:AF):EF:=λY=>match g Y with
 |some [(.int i,_),(.int j,_)]=>if -(2 ^ 20)<=i/\i<2 ^ 20/\-(2 ^ 20)<=j/\j<2 ^ 20 then some (.tup ((List.range (j-i).toNat).map λn:Nat=>D.int (i+n)),.own) else none
 |_=>none
def Zf{g:AF}(hc:X.calm=true)(hm:X.mg "tuple"=none)(mV:X.mg "range"=none)(ha:FA X [a,b] g)(hg:Gl X "tuple":=by rfl)(se:Gl X "range":=by rfl)
  (hs:starEach [a,b] X.env=[(false,eval a X.env),(false,eval b X.env)]:=by rfl) (ck:starEach [b] X.env=[(false,eval b X.env)]:=by rfl)
  (wL:starEach [.Call (.Name "range" p2) [a,b] [] p3] X.env=[(false,eval (.Call (.Name "range" p2) [a,b] [] p3) X.env)]:=by rfl) :
  FP X (.Call (.Name "tuple" p) [.Call (.Name "range" p2) [a,b] [] p3] [] pos) (Cg g):=by
 let#[ta,pa,_,qa]:=ha;exists 21,CG (ag9 hc) hg hm (by rfl) (cV (VD mV pa se hs ck) fq wL) (he:=wL) (hpl:=rfl);unfold Cg at e
 split at e
 .rename_i i t1 j t2 h1
  by_cases hb:-(2 ^ 20)<=i/\i<2 ^ 20/\-(2 ^ 20)<=j/\j<2 ^ 20
  .rw[if_pos hb] at e;ext e;refine qa ok h1 λH1 vs fp s1 r1 _=>?_
   cases r1 with
   |cons r r1=>
    cases r1 with
    |cons r' r1=>
     ext r1;ext r;ext r';refine#[i,j,rfl,λr hr=>#[r,i,j,rfl,bX,hb,?_,λl hl=>?_]]
     .unfold sizeLine;omega
     .have s2:=aI.new (o:=.aJ i j) hr;have s3:=aI.new (o:=.tup ((List.range (j-i).toNat).map λn:Nat=>V.int (i+n))) hl;apply k _ _ [] ((s1.trans s2).trans s3) (.tup (cE.of bX) (Q4 _)) .nil
  .rw[abo hb] at e;ext e
 .cases e
end
section
variable{K:Fr}
def VG(h:cE K H a (ks.map L2.kV))(ni:yL K=true)(hi:ks.all (λk=>k.isLeft)=true)(hn:ks≠[]):Tk H a (ks.map L2.kV):=by
 rcases h with(h|⟨o,h⟩)|⟨o,ay,n,hk,_,_,hd,_,rv⟩
 .exact#[.tup _,rfl,h]
 .exact#[.vL o _,rfl,h]
 .exfalso
  have q:=aei.mp ni (a,o) (Cy hk);dsimp only at q;rw[hd] at q;have len:=rv.length;have go:∀{ks:List Key} {vs},ks.all (λk=>k.isLeft)=true->aR (ks.map L2.kV) vs->∀v∈vs,∃i t,v=Value.int i t:=by
   intro ks
   induction ks with
   |nil=>intro vs _ r v m;ext r;ext m
   |cons k ks ih=>
    intro vs h r v m;let#[h1,h2]:=(aaV _ _).mp (by simpa only[aiP] using h);cases r with
    |cons r1 r2=>
     rcases aaO.mp m with e|m
     .subst e;cases k with
      |inr _=>ext h1
      |inl i=>let#[t,e]:=(show RelV (.int i) _ from r1);apply#[i,t,e]
     .exact ih h2 r2 v m
  rcases(aiR _ _).mp (show(ay.size==0||ay.toList.any _)=true from q) with z|z
  .have z:ay.size=0:=by simpa using z
   simp only[List.length_map,af8] at len;apply hn (aht (len.trans z))
  .let#[v,mv,e]:=aeK.mp z;let#[i,t,rfl]:=go hi rv v mv;ext e
def Tk.aH(h:Tk H a xs)(i:bh H H'):Tk H' a xs:=by
 let#[t,e1,e2]:=h;cases t with
 |tup ys=>apply#[.tup ys,e1,i.1 _ _ e2]
 |vL o ys=>apply#[.vL o ys,e1,i.2.1 _ _ _ e2]
 |iU _ _=>ext e1
 |jq _=>ext e1
variable[DecidableEq κ]
theorem GI:∀{es:List (κ×α)},k∉es.map (·.1)->(es.map λkv=>if kv.1=k then(kv.1,d) else kv)=es
 |[],_=>rfl
 |(q,x)::es,n=>by
  rw[aaB] at n ⊢;rw[abo (λe=>n (by rw[e];apply aah)),GI λm=>n (aab _ m)]
def aE.QZ:∀{es}{ak:List (κ×V)} {g},es.map (·.1)=ak.map (·.1)->aE K H (es.map (·.2)) (ak.map (·.2)) g->g.Nodup->(es.map (·.1)).Nodup->aZ es k=some d0->
  ∃v gf,fN ak k=some v/\Rep K H d0 v gf/\gf.Nodup/\(∀a∈gf,a∈g)/\∀(H') (d1) (g1),bh H H'->(∀b o,b∉gf->b∈g->H b=some o->H' b=some o)->Rep K H' d1 v g1->g1.Nodup->(∀b∈g1,b∈gf\/H b=none)->
   ∃g',aE K H' ((putD es k d1).map (·.2)) ((putK ak k v).map (·.2)) g'/\g'.Nodup/\∀b∈g',b∈g\/H b=none
 |[],_,_,_,_,_,_,e=>by ext e
 |_::_,[],_,k,_,_,_,_=>by simp at k
 |(x,d)::es,(y,v0)::ak,_,hk,r,nd,kd,e=>by
  simp only[aaB,agT] at hk;let#[rfl,hk]:=hk;rw[aaB] at kd;let#[Nv,Wv]:=ab6.mp kd;have any:∀{α}{l:List (κ×α)}{d:α},k∈l.map (·.1)->(l.any λkv=>decide (kv.1=k))=true:=λ{α l d} m=>by
   let#[p,m1,m2]:=acg.mp m;apply aeK.mpr #[p,m1,aaC m2]
  cases r with
  | @cons _ _ _ _ f1 f2 r1 r2=>
   let#[a1,a2,a3]:=adQ.mp nd
   by_cases hx:x=k
   .subst hx;have e1:aZ ((x,d)::es) x=some d:=by simp[aZ,adV]
    rw[e1] at e;obtain rfl:d=d0:=ach e;refine#[v0,f1,wW rfl,r1,a1,λa m=>aa4 _ m,λH' d1 g1 im kp rr n1 fr=>?_];refine#[g1++f2,?_,adQ.mpr #[n1,a2,λa ma b mb e=>?_],λb m=>?_]
    .have er:putD ((x,d)::es) x d1=(x,d1)::es:=by
      unfold putD;rw[any (d:=d1) (by simp),if_pos rfl,aaB,GI Nv,if_pos rfl]
     have ev:putK ((x,v0)::ak) x v0=(x,v0)::ak:=by
      unfold putK;rw[any (d:=v0) (by simp),if_pos rfl,aaB,GI (show x∉ak.map (·.1) by rw[<- hk];apply Nv),if_pos rfl]
     rw[er,ev,aaB,aaB];refine .cons rr (r2.frame (λa m=>?_) im);let#[o,w,_]:=r2.dW a m;rw[kp a o (λq=>a3 a q a m rfl) (aaS _ m) w,w]
    .subst e;let#[o,w,_]:=r2.dW a mb;rcases fr a ma with q|q
     .exact a3 a q a mb rfl
     .rw[q] at w;ext w
    .rcases abC.mp m with m|m
     .exact(fr b m).imp (aa4 _) id
     .exact .inl (aaS _ m)
   .have e1:aZ ((x,d)::es) k=aZ es k:=by simp[aZ,adV,hx]
    rw[e1] at e;let#[v,gf,h1,h2,h3,h4,h5]:=aE.QZ hk r2 a2 Wv e;have mk:k∈es.map (·.1):=by
     unfold aZ at e;let#[p,e2,e3]:=adq.mp e;apply acg.mpr #[p,ahf e2,aaK (show decide (p.1=k)=true from aiS (p:=λkv:κ×D=>decide (kv.1=k)) e2)]
    refine#[v,gf,by rw[yV hx];apply h1,h2,h3,λa m=>aaS _ (h4 a m),λH' d1 g1 im kp rr n1 fr=>?_];let#[g',c1,c2,c3]:=h5 H' d1 g1 im (λb o n m e=>kp b o n (aaS _ m) e) rr n1 fr;refine#[f1++g',?_,adQ.mpr #[a1,c2,λa ma b mb e=>?_],λb m=>?_]
    .have er:(putD ((x,d)::es) k d1)=(x,d)::putD es k d1:=by
      unfold putD;rw[any (d:=d1) (l:=(x,d)::es) (aab _ mk),any (d:=d1) mk,if_pos rfl,if_pos rfl,aaB,abo hx]
     have ev:(putK ((x,v0)::ak) k v)=(x,v0)::putK ak k v:=by
      unfold putK;rw[any (d:=v) (by rw[aaB,<- hk];apply aab _ mk),any (d:=v) (by rw[<- hk];apply mk),if_pos rfl,if_pos rfl,aaB,abo hx]
     rw[er,ev,aaB,aaB];refine .cons (r1.frame (λa m=>?_) im) c1;let#[o,w,_]:=r1.dW a m;rw[kp a o (λq=>a3 a m a (h4 a q) rfl) (aa4 _ m) w,w]
    .subst e;let#[o,w,_]:=r1.dW a ma;rcases c3 a mb with q|q
     .exact a3 a ma a q rfl
     .rw[q] at w;ext w
    .rcases abC.mp m with m|m
     .exact .inl (aa4 _ m)
     .exact(c3 b m).imp (aaS _) id
def Ok.blank(ok:Ok K H0 S z au Y U H)(h:Y[i]? = some none):Ok K H0 S z au Y (U.set i x) H:=
 #[λj d t e=>by
  have ne:i≠j:=λz=>by rw[<- z,h] at e;ext e
  let#[v,fp,a,b,c]:=ok.sl j d t e;apply#[v,fp,by rw[ac8 ne];apply a,b,c],ok.hl,ok.zd,ok.en,by rw[ahn];apply ok.ln]
end
def BI(cn:Str):Option Slot->Option (List (Str×D))
 |some (some (.ins c es,.own))=>if c=cn then some es else none
 |_=>none
def KN:Option Slot->Option (List D)
 |some (some (.tup ls,_))=>some ls
 |_=>none
def E8:Option Slot->Option Str
 |some (some (.str w,_))=>some w
 |_=>none
def Fq:Option D->Option (List (List Key×D))
 |some (.fY l)=>some l
 |_=>none
def Pr:∀{x} {es},BI cn x=some es->x=some (some (.ins cn es,.own)):=by
 rintro(_|_|⟨d,t⟩) es e
 any_goals ext e
 ext d
 any_goals ext e
 ext t
 any_goals ext e
 apply(Option.ite_none_right_eq_some.mp e).elim λa b=>by ext a;ext b;rfl
def ahQ:∀{x} {ls},KN x=some ls->∃t,x=some (some (.tup ls,t)):=by
 rintro(_|_|⟨d,t⟩) es e
 any_goals ext e
 ext d
 all_goals ext e
 apply#[_,rfl]
def aao:∀{x} {w},E8 x=some w->∃t,x=some (some (.str w,t)):=by
 rintro(_|_|⟨d,t⟩) es e
 any_goals ext e
 ext d
 all_goals ext e
 apply#[_,rfl]
def aaF:∀{x} {l},Fq x=some l->x=some (.fY l):=by
 rintro(_|d) es e
 any_goals ext e
 ext d
 all_goals ext e
 rfl
def ux(cn fl iI m:Str)(ft:EF)(G:MF):SF:=λY=>
 (BI cn Y[0]?).bind λes=>(KN Y[1]?).bind λls=>(E8 Y[2]?).bind λwd=>(Fq (es.lookup fl)).bind λak=>(jN ls).bind λks=>(ft Y).bind λdn=>
  (BI iI (some (some ((aZ ak ks).getD dn.1,dn.2)))).bind λiA=>(G (.ins iI iA) [.str wd]).bind λr=>
   if Y[3]?.any Option.isNone=true/\iA.lookup m=none/\ks.all (λk=>k.isLeft)=true/\ks≠[]/\(ak.map (·.1)).Nodup/\ak.length<sizeLine/\aH r.1=true then some (.nx (jt (cP Y 0 (.ins cn (dY fl (.fY (putD ak ks r.2)) es))) 4 r.1 .own)) else none
def aem(e:ux cn fl iI m ft G Y=some w):∃es ls lt wd wt ak ks dn iA r d1,Y[0]? = some (some (.ins cn es,.own))/\Y[1]? = some (some (.tup ls,lt))/\Y[2]? = some (some (.str wd,wt))/\Y[3]? = some none/\es.lookup fl=some (.fY ak)/\jN ls=some ks/\ft Y=some (dn,.own)/\
  (aZ ak ks).getD dn=.ins iI iA/\iA.lookup m=none/\ks.all (λk=>k.isLeft)=true/\ks≠[]/\(ak.map (·.1)).Nodup/\ak.length<sizeLine/\G (.ins iI iA) [.str wd]=some (r,d1)/\aH r=true/\w=.nx (jt (cP Y 0 (.ins cn (dY fl (.fY (putD ak ks d1)) es))) 4 r .own):=by
 let#[es,h1,e]:=aeM.mp e;let#[ls,h2,e]:=aeM.mp e;let#[wd,h3,e]:=aeM.mp e;let#[ak,h4,e]:=aeM.mp e;let#[ks,h5,e]:=aeM.mp e;let#[dn,h6,e]:=aeM.mp e;let#[iA,h7,e]:=aeM.mp e;let#[#[r,d1],h8,e]:=aeM.mp e;let#[#[a0,a1,a2,a3,a4,a5,a6],e]:=Option.ite_none_right_eq_some.mp e;let#[t2,h2]:=ahQ h2;let#[t3,h3]:=aao h3;have h7:=Pr h7;have a0:Y[3]? = some none:=by
  rcases h:Y[3]? with _|_|_<;>rw[h] at a0<;>first|rfl|ext a0
 ext e;injection h7 with h7;injection h7 with h7;injection h7 with h7 h9;apply#[es,ls,t2,wd,t3,ak,ks,dn.1,iA,r,d1,Pr h1,h2,h3,a0,aaF h4,h5,by rw[h6,<- h9],h7,a1,a2,a3,a4,a5,h8,a6,rfl]
def afT(h0:Y[0]? = some (some (.ins cn es,.own)))(h1:Y[1]? = some (some (.tup ls,lt)))(h2:Y[2]? = some (some (.str wd,wt)))(h3:Y[3]? = some none)(h4:es.lookup fl=some (.fY ak))(h5:jN ls=some ks)(h6:ft Y=some (dn,.own))(h7:(aZ ak ks).getD dn=.ins iI iA)(h8:G (.ins iI iA) [.str wd]=some (r,d1))
  (hc:iA.lookup m=none/\ks.all (λk=>k.isLeft)=true/\ks≠[]/\(ak.map (·.1)).Nodup/\ak.length<sizeLine/\aH r=true):ux cn fl iI m ft G Y=some (.nx (jt (cP Y 0 (.ins cn (dY fl (.fY (putD ak ks d1)) es))) 4 r .own)):=by
 unfold ux BI KN E8 Fq;simp only[h0,h1,h2,h3,h4,h5,h6,h7,h8,adG,if_pos];apply if_pos #[rfl,hc]
section
variable{cn fl iI m x0 x1 x2 x3 x4:Str}{rest:List Stmt}
set_option maxHeartbeats 1000000 in
def UU(hu:X.A.units+1<cLine)(ni:yL X.K=true)(hC:ClsAt X.K cn C)(na:jd X.K C fl)(zB:ClsAt X.K iI C2)(hm:mE X.K C2 m fa)(GG:b_ X.prog X.w X.K X.mg X.base dO k fa fd ps (dQ X.K G))(hr:bx k X.A)(hb:Binds X.K fd ps [])
  (hT:FP X tc ft) (zj:FM X rest g) (hN:X.N.Nodup) (a0:VA X 0 x0:=by walk_at "va") (a1:VA X 1 x1:=by walk_at "va") (a2:VA X 2 x2:=by walk_at "va") (a3:VA X 3 x3:=by walk_at "va") (h4:X.N[4]? = some x4:=by rfl)
  (v3:Loc X.env.scope x3:=by first|exact Or.inl rfl|exact Or.inr rfl) (v4:Loc X.env.scope x4:=by first|exact Or.inl rfl|exact Or.inr rfl)
  (DF:attributeBase (.Name x0 p1) fl X.env (eval (.Name x0 p1) X.env)=eval (.Name x0 p1) X.env:=by rfl) (adl:attributeBase (.Name x0 q1) fl X.env (eval (.Name x0 q1) X.env)=eval (.Name x0 q1) X.env:=by rfl)
  (mm:M2 X (.Attribute (.Name x0 p1) fl p2) "get" p3 (.Name x1 p4) tc p5:=by apply#[rfl,rfl,rfl,rfl])
  (s1:swapsWith (.Call (.Attribute (.Attribute (.Name x0 p1) fl p2) "get" p3) [.Name x1 p4,tc] [] p5) (some (.Name x3 p6)) p7.line X.env=pure false:=by rfl)
  (s2:swapsWith (.Call (.Attribute (.Name x3 q2) m q3) [.Name x2 q4] [] q5) (some (.Name x4 p8)) p9.line X.env=pure false:=by rfl)
  (s3:swapsWith (.Name x3 q6) (some (.Subscript (.Attribute (.Name x0 q1) fl q7) (.Name x1 q8) q9)) r1.line X.env=pure false:=by rfl)
  (f3:X.fn x3=true\/X.env.scope.names.lookup x3=some .local:=by first|exact .inl rfl|exact .inr rfl) (f4:X.fn x4=true\/X.env.scope.names.lookup x4=some .local:=by first|exact .inl rfl|exact .inr rfl) (k3:lK X x3=false:=by rfl) (k4:lK X x4=false:=by rfl)
  (eE:starEach [.Name x2 q4] X.env=[(false,eval (.Name x2 q4) X.env)]:=by rfl)
  (ht:eval (.Call (.Attribute (.Name x3 q2) m q3) [.Name x2 q4] [] q5) X.env=(do
   let ov <- eval (.Name x3 q2) X.env
   standAt q3.atName
   let(f,first) <- holding [ov] (getMethod ov m pl)
   callWith q5 f first (backTo q5 (starEach [.Name x2 q4] X.env)) (backToKw q5 (keywordEach [] X.env))):=by rfl) :
  FM X (.Assign [.Name x3 p6] (.Call (.Attribute (.Attribute (.Name x0 p1) fl p2) "get" p3) [.Name x1 p4,tc] [] p5) p7::.Assign [.Name x4 p8] (.Call (.Attribute (.Name x3 q2) m q3) [.Name x2 q4] [] q5) p9::.Assign [.Subscript (.Attribute (.Name x0 q1) fl q7) (.Name x1 q8) q9] (.Name x3 q6) r1::rest) (cz (ux cn fl iI m ft G) g):=by
 let#[tT,pT,sT]:=hT;let#[tr,pr,sr]:=zj;refine#[_,zA (BX hN a3.N v3 (Ml hu (sy a0.pe DF) a1.pe pT mm) s1 f3)
  (zA (BX hN h4 v4 (Bl a3.pe zB.cl hm GG hr hb .nil oE (cV a2.pe fq eE) eE rfl ht) s2 f4)
  (zA (IC hu (sy a0.pe adl) a1.pe a3.pe s3) pr)),@λH0 S z au Y U H E o ok e kE=>?_]
 cases hw:ux cn fl iI m ft G Y with
 |none=>unfold cz at e;rw[hw] at e;ext e
 |some w=>
  let#[es,ls,lt,wd,wt,ak,ks,dn,iA,r,d1,e0,e1,e2,e3,elf,eks,eft,uG,Vt,Km,xP,knd,hlen,eG,hir,rfl]:=aem hw;have e:g (jt (cP Y 0 (.ins cn (dY fl (.fY (putD ak ks d1)) es))) 4 r .own)=some o:=by unfold cz at e;rw[hw] at e;apply e
  let#[v,bz,hs,r0,zz]:=ok.sl 0 _ _ e0;let#[vl,Ec,PD,rl,_]:=ok.sl 1 _ _ e1;let#[bL,xs,rfl,hqL,XW]:=rl.jB;obtain rfl:=aE.keys XW eks;have O0:=VG hqL ni Km xP;let#[vw,fw,jQ,eB,_]:=ok.sl 2 _ _ e2;let#[rfl,rfl]:=eB.zp;have l3:3<U.length:=by rw[<- ok.ln];apply(ac0.mp e3).1
  let#[b0,dx,fs,u,gf,#[nb,nx],rfl,a1,a2,a3,a4,a5,a6]:=r0.OI hC.ns zz.1 elf;cases a3 with
  | @fY l iK _ g0 hl je rs=>
   let#[lg,n0]:=ab6.mp a4;refine#[.ref b0,hs,b0,C,dx,fs,.ref l,rfl,a1,hC.cl,na,a2,l,rfl,.inr #[iK,.inl hl],.ref bL,PD,?_];refine sT ok eft λH3 zv Jj s3 rn gn=>?_
   refine#[fN iK ks,.inr #[iK,ks,bL,.inl (s3 _ _ hl),rfl,(Tk.aH O0 (.of s3)),rfl],?_];have hv:∃jR,Rep X.K H3 (.ins iI iA) ((fN iK ks).getD zv) jR/\jR.Nodup/\(∀b∈jR,b∈g0\/H b=none)/\∀H5 bV,bh H3 H5->(∀b o,b∉jR->H3 b=some o->H5 b=some o)->Rep X.K H5 d1 ((fN iK ks).getD zv) bV->bV.Nodup->(∀b∈bV,b∈jR\/H3 b=none)->
     ∃g',aE X.K (upd H5 l (.dT (putK iK ks ((fN iK ks).getD zv)))) ((putD ak ks d1).map (·.2)) ((putK iK ks ((fN iK ks).getD zv)).map (·.2)) g'/\g'.Nodup/\l∉g'/\∀b∈g',b∈g0\/H b=none:=by
    cases sC:aZ ak ks with
    |some dv=>
     rw[sC,aiy] at uG;subst uG;let#[v,gv,b1,b2,b3,b4,b5]:=aE.QZ je rs n0 knd sC;rw[b1,aiy];refine#[gv,b2.same s3,b3,λb m=>.inl (b4 b m),λH5 bV im kp r5 ym l5=>?_];have nl:l∉gv:=λm=>lg (b4 l m)
     have qg:=kp l _ nl (s3 _ _ hl);have CK:l∉bV:=λm=>(l5 l m).elim nl λq=>by rw[s3 _ _ hl] at q;ext q
     let#[g',c1,c2,c3]:=b5 (upd H5 l (.dT (putK iK ks v))) d1 bV (((bh.of s3).trans im).trans (bh.upd qg rfl)) (λb o n mb e=>by rw[aN (λq:b=l=>lg (q ▸ mb))];apply kp b o n (s3 b o e))
      (r5.frame (λb m=>aN (λq:b=l=>CK (q ▸ m))) (bh.upd qg rfl)) ym (λb m=>(l5 b m).imp id s3.free)
     apply#[g',c1,c2,(λm=>(c3 l m).elim lg λq=>by rw[hl] at q;ext q),c3]
    |none=>
     rw[sC] at uG;have uG:=uG;subst uG;have hn:=(sP je rs).2 sC;rw[hn];show ∃jR,Rep X.K H3 (.ins iI iA) zv jR/\jR.Nodup/\(∀b∈jR,b∈g0\/H b=none)/\∀H5 bV,bh H3 H5->(∀b o,b∉jR->H3 b=some o->H5 b=some o)->Rep X.K H5 d1 zv bV->bV.Nodup->(∀b∈bV,b∈jR\/H3 b=none)->
      ∃g',aE X.K (upd H5 l (.dT (putK iK ks zv))) ((putD ak ks d1).map (·.2)) ((putK iK ks zv).map (·.2)) g'/\g'.Nodup/\l∉g'/\∀b∈g',b∈g0\/H b=none
     refine#[Jj,rn,gn.1,λb m=>.inr (gn.2 b m),λH5 bV im kp r5 ym l5=>?_];have nl:l∉Jj:=λm=>by rw[gn.2 l m] at hl;ext hl
     have qg:=kp l _ nl (s3 _ _ hl);have yd:∀b∈bV,H b=none:=λb m=>(l5 b m).elim (gn.2 b) s3.free
     have CK:l∉bV:=λm=>by rw[yd l m] at hl;ext hl
     have i6:bh H (upd H5 l (.dT (putK iK ks zv))):=((bh.of s3).trans im).trans (bh.upd qg rfl);have n1:(ak.any λkv=>decide (kv.1=ks))=false:=by
      unfold aZ at sC;rw[Option.map_eq_none_iff,ahs] at sC;apply List.any_eq_false.mpr sC
     have n2:(iK.any λkv=>decide (kv.1=ks))=false:=by
      rw[Gf,hn];rfl
     refine#[g0++(bV++[]),?_,?_,λm=>?_,λb m=>?_]
     .unfold putD putK;rw[n1,n2,abo aa2,abo aa2,aea,aea];unfold putK at i6;rw[n2,abo aa2] at i6;refine aE.append (rs.frame (λb m=>?_) i6) (.cons (r5.frame (λb m=>aN (λq:b=l=>CK (q ▸ m))) (bh.upd qg rfl)) .nil);let#[o,w,_]:=rs.dW b m;rw[aN (λq:b=l=>lg (q ▸ m)),kp b o (λq=>by rw[gn.2 b q] at w;ext w) (s3 b o w),w]
     .rw[acw];refine adQ.mpr #[n0,ym,λa ma b mb e=>?_];let#[o,w,_]:=rs.dW a ma;rw[e,yd b mb] at w;ext w
     .rw[acw] at m;apply(abC.mp m).elim lg CK
     .rw[acw] at m;apply(abC.mp m).imp id (yd b)
   generalize(fN iK ks).getD zv=v at hv ⊢;let#[jR,rv,Xy,EB,fin]:=hv;let#[a,dxT,UT,gT,rfl,Ea,t1,t2,t3,t4]:=rv.nJ zB.ns;refine#[.ref a,aeT l3,a,dxT,UT,rfl,t1,vg t3 Vt,.str wd,(by rw[ac8 (by decide)];apply jQ),?_];refine#[a,[.str wd],_,jR,[.str wd],[],r,d1,rfl,rv,Xy,.cons (.str wd) .nil,(λb m=>nomatch m),eG,λH5 ut bV im kp r5 ym l5 rr=>?_];have nl:l∉jR:=λm=>(EB l m).elim lg λq=>by rw[hl] at q;ext q
   have qg:=kp l _ nl (s3 _ _ hl);have nb0:b0∉jR:=λm=>(EB b0 m).elim (λq=>nb (aab _ q)) λq=>by rw[a1] at q;ext q
   have a15:=kp b0 _ nb0 (s3 _ _ a1);have hlv:iK.length=ak.length:=by have:=congrArg List.length je;simpa using this.symm
   refine#[.ref a,(by rw[ac8 (by decide)];apply aeT l3),.ref b0,(by rw[ac8 (by decide),ac8 (by decide)];apply hs),b0,C,dx,fs,.ref l,rfl,a15,hC.cl,na,a2,.ref bL,(by rw[ac8 (by decide),ac8 (by decide)];apply PD),l,_,rfl,
    .inr #[iK,ks,bL,qg,rfl,(Tk.aH O0 ((bh.of s3).trans im)),(by rw[hlv];apply hlen),rfl],?_]
   let#[g',y1,y2,y3,y4]:=fin H5 bV im kp r5 ym l5;have i6:bh H (upd H5 l (.dT (putK iK ks (.ref a)))):=((bh.of s3).trans im).trans (bh.upd qg rfl);have k6:∀b o,b∉l::g0->H b=some o->upd H5 l (.dT (putK iK ks (.ref a))) b=some o:=λb o n e=>by
    rw[aN (λq=>n (by rw[q];apply aah))];apply kp b o (λm=>(EB b m).elim (λq=>n (aab _ q)) λq=>by rw[e] at q;ext q) (s3 b o e)
   let#[ah6,z1,z2,z3]:=a6 _ (.fY (putD ak ks d1)) (l::g') i6 k6 (.fY bX (Dw je) y1) (ab6.mpr #[y3,y2]) (λb m=>(aaO.mp m).elim (λq=>.inl (by rw[q];apply aah)) λm=>(y4 b m).imp (aab _) id);let#[z',j9]:=ok.put e0 hs zz i6 (λb o n e=>k6 b o (λm=>n (a5 b m)) e) z1 z2 z3;have e3':(cP Y 0 (.ins cn (dY fl (.fY (putD ak ks d1)) es)))[3]? = some none:=by unfold cP;rw[ac8 (by decide),adm,e3];rfl
   refine(j9.blank (x:=some (.ref a)) e3').stored (t:=.own) (i:=4) (aI.refl _) (rr.frame (λa m=>nomatch m) (bh.upd qg rfl)) .nil λz2 xu=>?_
   apply sr xu e (kE.of ((Kp.set a3.N k3).trans (Kp.set h4 k4)))
end
end L2.Ev
namespace L2
open PySem PySem.Spec PyProof.Rows
def aeR(K:Fr):V->List V->Hp->VK->Prop:=λx vs H Q=>∃(l:Addr) (ts:List Int) (i:Int) (j:Nat),x=.ref l/\vs=[.int i]/\bY K H l (ts.map V.int)/\ts[j]? = some i/\(∀m,m<j->ts[m]?≠some i)/\Q (.int j) H
def Oj(i y:Int)(t:Tok):iY (.int i) (.int y t)=(y==i):=rfl
def ad8:F6 X "list.index" (aeR X.K):=by
 intro af s U H x vs v us Q I rx rv h;let#[l,ts,i,j,rfl,rfl,hq,hj,KY,q]:=h;ext rx;let#[u,rfl,ru]:=vals1 rv;let#[t,rfl]:=ru;let#[ay,r,pl,hz]:=I.list hq;have hlen:=r.length;rw[List.length_map] at hlen hz;let#[o,ho,hc,n,hd]:=pl.isList;let#[c,dd,da,sl]:=o;ext hc;ext hd;have hjl:=(ac0.mp hj).1;have vS:∀(m) (hm:m<ay.toArray.size),∃y t',ts[m]? = some y/\ay.toArray[m]=.int y t':=λm hm=>by
  have pC:m<ts.length:=by simp at hm;omega
  let#[w,hw,eB]:=r.get (by rw[adm,abm pC];rfl);let#[t',rfl]:=eB;refine#[ts[m],t',abm pC,?_];have:=(ac0.mp hw).2;simpa using this
 have hsz:j<ay.toArray.size:=by simp;omega
 refine call_meets F.slot_list_index #[_,ho,rfl] F.entry_list_index (F.args_list_index_2 _ _) (SeqAt.list_indexAt l ay.toArray n dd sl (.int i t) (iY (.int i)) j hsz (by rw[aga] at hz;omega) ?_ (λm hm eT=>?_)) #[ho,λw hw=>uw (x:=.int i) #[t,rfl] rfl r (by rw[aiM];apply aei.mpr λ_ _=>rfl) w (by simpa using hw),#[.int j,H,I.tok _,#[_,rfl],q]]
 .let#[y,t',h1,h2]:=vS j hsz;rw[h2,Oj];rw[hj] at h1;ext h1;apply aia _
 .let#[y,t',h1,h2]:=vS m hm;rw[h2,Oj];refine ahe.mpr λe=>KY m eT ?_
  rw[h1,eq_of_beq e]
end L2
namespace L2
def bx.m(r:bx k A cm)(h:j<=k:=by decide):bx j A cm:=r.mono h
end L2
namespace L2.Ev
open PySem PySem.Spec PyProof.Rows
def Cw:D->D->Option D
 |.lst ds,.int i=>match eF ds with
  |some ts=>(ts.findIdx? (· == i)).map λj:Nat=>.int j
  |none=>none
 |_,_=>none
def As(ha:FP X a fa)(hb:FP X b fb)(hs:starEach [b] X.env=[(false,eval b X.env)]:=by rfl)(kQ:attributeBase a "index" X.env (eval a X.env)=eval a X.env:=by rfl)
  (kR:((backTo p3 (starEach [b] X.env)).all (λx=>!x.1)&&(backToKw p3 (keywordEach [] X.env)).all (λx=>x.1.isSome)&&decide ([b].length+([]:List Keyword).length+(if([]:List Keyword).isEmpty then 0 else 1)<30))=true:=by rfl)
  (kT:(p2.endLine==p3.line)=true:=by rfl):FP X (.Call (.Attribute a "index" p2) [b] [] p3) (e2 Cw fa fb):=by
 let#[ta,pa,sa]:=ha;let#[tb,pb,sb]:=hb;exists 21,wo PySem.F.plainAttrs_list PySem.F.slot_list_index PySem.F.type_list_index ad8 pa (cV pb fq hs) kQ kR kT hs rfl;let#[d1,t1,d2,t2,e1,d7,e3,rfl]:=rD e;refine sa ok e1 λH1 x f1 s1 r1 _=>?_
 cases d1 with
 |lst ds=>
  cases d2 with
  |int i=>
   have e3:(match eF ds with|some ts=>(ts.findIdx? (· == i)).map λj:Nat=>D.int j|none=>none)=some d:=e3;cases h:eF ds with
   |none=>rw[h] at e3;ext e3
   |some ts=>
    rw[h] at e3;dsimp only at e3;cases h2:ts.findIdx? (· == i) with
    |none=>rw[h2] at e3;ext e3
    |some j=>
     rw[h2] at e3;ext e3;let#[l0,xs0,f0,rfl,VR,rs0,_]:=r1.d_;refine#[.inl #[rfl,_,VR],?_];refine sb (ok.same s1) d7 λH2 y f2 s2 r2 _=>?_
     let#[rfl,_]:=r2.jm;have JR:=r1.same s2;let#[l,xs,f,e0,hq,rs,_]:=JR.d_;ext e0;have hx:=tR rs h;subst hx;let#[hj,hp,KY]:=List.findIdx?_eq_some_iff_getElem.mp h2;refine#[l0,ts,i,j,rfl,rfl,hq,?_,λm hm em=>?_,k H2 _ [] (s1.trans s2) (.int _) #[ac6,λa m=>nomatch m]]
     .rw[abm hj,eq_of_beq hp]
     .let#[pC,e']:=ac0.mp em;apply KY m hm (by rw[e'];apply aia _)
  |_=>ext e3
 |_=>ext e3
end L2.Ev
namespace L2
open PySem PySem.Spec PyProof.Rows
def Jq{K:Fr}(h:x_ K=true):∀r∈jg K,jg K=[r]/\PySem.W.codeHdIn K r.1 r.2.1=true/\K.lookup r.2.1=none:=λr m=>by
 have ok:=((aaV _ _).mp h).2
 split at ok
 .rename_i e;rw[e] at m;ext m
 .rename_i r' e;rw[e] at m;cases aav.mp m;let#[a,b]:=(aaV _ _).mp ok;apply#[e,a,by simpa using b]
 .cases ok
def vG(K:Fr):Hp:=λb=>match jg K with
 |[r]=>if b=r.2.1 then some (.iU r.2.2.1 r.2.2.2) else none
 |_=>none
def YE{K:Fr}
  (KX:K.In bQ.heap) (yD:x_ K=true) (yZ:∀r∈jg K,bQ.heap.get? r.2.1=some (PySem.W.tabObj ([].toArray))) (vC:bQ.heap.Ns mainGlobals mg) (hb:bQ.heap.Ns builtinsNs mb) (Wy:∀x:Str,x≠"__name__"->mb x=bootBuiltins x) (ahS:bQ.heap.NoLimit)
  (WO:∃bm ob,mg "__builtins__"=some (.ref bm)/\bm≠builtinsNs/\bQ.heap.get? bm=some ob/\ob.cls=.type "module"/\ob.dict=some builtinsNs/\ob.data=.plain) (hg:bQ.gens=([].toArray))
  (ha:bQ.heap.get? a=some { cls:=.type "list",data:=.seq vs.toArray }) (hi:IntsAre vs ns) (hl:ns.length<=sizeLine) (hr:bx k callerA)
  (F:∀base:Heap,K.In base->base.Ns mainGlobals mg->b_ P w K mg base CX k fa fd [x] sp) (afL:∀(s) (u),BindsTo s fd #[[u],[]] [(x,u)])
  (q_:∀H:Hp,Ev.qZ K H a (ns.map V.int)->sp [.ref a] H (λv _=>v=.bl true) λ_ _ _=>False) (Lm:∀H e s',CX [] H bQ (λ_ _ _=>False) e s'->False) :
  codeAny (model P w) callerA (.call (.ref fa) #[[.ref a],[]]) (λr s'=>r=.ok (.ret (.bool true))/\OldK bQ.heap s'.heap/\s'.os=bQ.os/\AllBare s'.gens) bQ:=by
 have rv:=EE hi;have agI:=hi.length;have tab_of:∀{b} {u},vG K b=some u->∃r∈jg K,b=r.2.1/\u=.iU r.2.2.1 r.2.2.2:=λ{b u} e=>by
  unfold vG at e
  split at e
  .rename_i r er;let#[h,e]:=ci e;ext e;apply#[r,by rw[er];apply List.mem_singleton_self r,h,rfl]
  .cases e
 have PL:∀r∈jg K,vG K r.2.1=some (.iU r.2.2.1 r.2.2.2):=λr m=>by
  unfold vG;rw[(Jq yD r m).1];apply if_pos rfl
 have na:∀r∈jg K,r.2.1≠a:=λr m z=>by
  have:=yZ r m;rw[z,ha] at this;ext this
 have core:∀H:Hp,Ev.qZ K H a (ns.map V.int)->(∀b u,H b=some u->(b=a/\K.lookup a=none/\u=.dZ { cls:=.type "list",data:=.seq vs.toArray } (.lst (ns.map V.int)))\/∃r∈jg K,b=r.2.1/\u=.iU r.2.2.1 r.2.2.2)->(∀r∈jg K,H r.2.1=some (.iU r.2.2.1 r.2.2.2))->
   codeAny (model P w) callerA (.call (.ref fa) #[[.ref a],[]]) (λr s'=>r=.ok (.ret (.bool true))/\OldK bQ.heap s'.heap/\s'.os=bQ.os/\AllBare s'.gens) bQ:=by
  intro H hS hA hL;have aG:c9 P w H bQ.heap:=λb u e=>by
   rcases hA b u e with⟨rfl,_,rfl⟩|⟨r,m,rfl,rfl⟩
   .exact#[ha,by rw[List.length_map];apply hl,vs,_,rv,ha]
   .exact#[([].toArray),yZ r m,.inl rfl]
  have free:∀{b} {o},bQ.heap.get? b=some o->(∀xs n,o.data≠.seq xs n)->(∀xs,o.data≠.fields xs)->H b=none:=λ{b o} e d1 d2=>by
   cases q:H b with
   |none=>rfl
   |some u=>
    rcases hA b u q with⟨rfl,_,_⟩|⟨r,m,rfl,_⟩
    .rw[ha] at e;ext e;apply absurd rfl (d1 _ _)
    .rw[yZ r m] at e;ext e;apply absurd rfl (d2 _)
  have AV:∀{b} {m},bQ.heap.Ns b m->(qM bQ.heap H).Ns b m:=λ{b m} ⟨o,es,ep,e,d,r⟩=>#[o,es,ep,J6 e (free e (λ_ _ z=>by rw[d] at z;ext z) λ_ z=>by rw[d] at z;ext z),d,r]
  have PR:K.In (qM bQ.heap H):=λb o e=>J6 (KX b o e) (by
   cases q:H b with
   |none=>rfl
   |some u=>
    rcases hA b u q with⟨rfl,z,_⟩|⟨r,m,rfl,_⟩
    .rw[z] at e;ext e
    .rw[(Jq yD r m).2.2] at e;ext e)
  let#[bm,ob,b1,b2,b3,b4,b5,b6]:=WO;have hM:Mod K mg (qM bQ.heap H):=#[PR,AV vC,#[mb,AV hb,Wy],let#[mc,h1,h2]:=ahS;#[mc,AV h1,h2],bm,ob,b1,b2,J6 b3 (free b3 (λ_ _ z=>by rw[b6] at z;ext z) λ_ z=>by rw[b6] at z;ext z),b4,b5,b6]
  have e0:sY P w K mg (qM bQ.heap H) callerA [] bQ H:=#[rfl,hM,λb o e=>afz e,Nat.le_of_eq (aaX _ _),trivial,λb hb=>absurd (show b∈([]:List Addr) from hb) (by simp),aG,.of_eq hg,#[.inl rfl,yD,hL]]
  refine aiL ((F _ PR (AV vC)).run callerA [] bQ H #[[.ref a],[]] [.ref a] [.ref a] _ _ hr e0 (afL bQ (.ref a)) (.cons rfl .nil) (q_ H hS)) λr s' h=>?_
  cases r with
  |error e=>apply(Lm H e s' h).elim
  |ok fl=>
   cases fl with
   |next=>apply False.elim h
   |brk=>apply False.elim h
   |cont=>apply False.elim h
   |ret u=>
    let#[v,H',os,bare,un,QJ,r',q]:=h;have q':=q;subst q';obtain rfl:u=Value.bool true:=r';refine#[rfl,#[λb o e=>?_,λb o e=>un.there b o e (by simp)],os,bare];cases q:H b with
    |none=>apply .inl (un.keep b o e q (by intro z;apply absurd (show b∈([]:List Addr) from z) (by simp)) (by simp))
    |some u=>
     rcases hA b u q with⟨rfl,_,rfl⟩|⟨r,m,rfl,rfl⟩
     .have z2:=un.jh b _ _ q;let#[e1,_]:=aG b _ q;let#[e2,_]:=QJ b _ z2;rw[e] at e1;ext e1;apply .inl e2
     .have z2:=un.jw r.2.1 (.iU _ _) q;let#[ps,e2,_]:=QJ _ _ z2;rw[yZ r m] at e;ext e;apply .inr (.inl #[((PySem.W.codeHd_of_K KX (Jq yD r m).2.1).tab (yZ r m)).isCodeTable,rfl,([].toArray),ps,rfl,by simpa using e2])
 cases hk:K.lookup a with
 |some o=>
  have e:=KX a o hk;rw[ha] at e;ext e;refine core (vG K) (.inr #[_,vs.toArray,_,hk,rfl,rfl,rfl,by rw[abK,agI];apply hl,by simpa using rv]) (λb u z=>.inr (tab_of z)) PL
 |none=>
  refine core (λb=>if b=a then some (.dZ { cls:=.type "list",data:=.seq vs.toArray } (.lst (ns.map V.int))) else vG K b) (.inl #[{ cls:=.type "list",data:=.seq vs.toArray },if_pos rfl]) (λb u z=>?_) λr m=>(abo (na r m)).trans (PL r m)
  by_cases hb:b=a
  .have z':=(if_pos hb).symm.trans z;ext z';apply .inl #[hb,hk,rfl]
  .exact .inr (tab_of ((abo hb).symm.trans z))
def adb{l:PySem.W.OpenLaw}{K:Params->Fr}{CX:World->qE}{sp:World->Sp}
  (hn:l.most=some n) (vN:n<=sizeLine) (yl:d.params.defaults=[]) (hr:bx k callerA) (hY:∀(w) (h),YP w h->(K w.params).In h) (hT:∀(w) (h),YP w h->∀r∈jg (K w.params),h.get? r.2.1=some (PySem.W.tabObj ([].toArray))) (hL:∀w:World,x_ (K w.params)=true)
  (F:∀(w) (mg) (fa) (h),(K w.params).In h->h.Ns mainGlobals mg->mg d.name=some (.ref fa)->
   ∃fd:FuncData,(∀(s) (u),BindsTo s fd #[[u],[]] [(x,u)])/\∀base:Heap,(K w.params).In base->base.Ns mainGlobals mg->b_ l.prog w (K w.params) mg base (CX w) k fa fd [x] (sp w))
  (q_:∀(w) (H) (a) (ns:List Int),ns.length<=n->Ev.qZ (K w.params) H a (ns.map V.int)->sp w [.ref a] H (λv _=>v=.bl true) λ_ _ _=>False)
  (Lm:∀(w) (H) (s) (e) (s'),CX w [] H s (λ_ _ _=>False) e s'->False) :
  PySem.W.WalkO q loose XP YP l.row.toRowW d [] (λf vs=>PySem.call f vs):=by
 refine MZ.Zk hn yl λw cT bQ mg mb fa o pm cd doc a vs ns G YY ho hd iD wN IG hints hlen hg=>?_
 let#[fd,hb,hF]:=F w mg fa _ (hY w _ YY) G.T.g wN;apply YE (hY w _ YY) (hL w) (hT w _ YY) G.T.g G.T.b G.T.builtins G.T.nolimit G.T.bmain hg IG hints (af0 hlen vN) hr hF hb (λH hS=>q_ w H a ns hlen hS) λH e s'=>Lm w H bQ e s'
end L2
namespace L2.Ev
open PySem PySem.Spec PySem.W PyProof.Rows
structure Z where
 P:Program
 w:World
 K:Frag
 mg:Str->Option Value
 base:Heap
structure En(L:Ls)(z:Z):Prop where
 b:∀{x},L.bt.contains x=true->z.mg x=none
 i:∀{x} {n},L.gi.lookup x=some n->∃t,z.mg x=some (.int n t)
 t:∀{x} {l},L.tp.lookup x=some l->∃a,z.mg x=some (.ref a)/\A0 z.K a l
 c:∀c:Str,L.cl.contains c=true->ClsAt z.K c (cA z.K c)
 m:∀{c},L.cl.contains c=true->z.mg c=some (.ref (cA z.K c))
 n:∀{c a},L.na.contains (c,a)=true->jd z.K (cA z.K c) a
 ni:L.ni=true->yL z.K=true
 g:∀{c},L.ex.contains c=true->nsIn z.K mainGlobals c=some (some (.ref (cA z.K c)))
 e:∀{c},L.ex.contains c=true->z.mg c=some (.ref (cA z.K c))
 x:∀{c},L.xc.contains c=true->Bp z.K (cA z.K c)
 ct:∀{c} {ns},L.ct.lookup c=some ns->VZ z.K ns (cA z.K c)
 kt:∀{c} {tb},L.kt.lookup c=some tb->B5 z.K tb (kv z.K c)
 ki:∀{c} {p},L.ki.lookup c=some p->Rb z.K p.2 (p.1.map (cA z.K))
def jb(s:Stmt):List Str:=(lP s).args.map (·.arg)
theorem L8:∀{l:List Str} {us},us.map strOf=l.map some->aR (l.map V.str) us
 |[],[],_=>.nil
 |[],_::_,e=>nomatch e
 |_::_,[],e=>nomatch e
 |a::l,u::us,e=>by
  let#[e1,e2]:=List.cons.inj e;refine .cons ?_ (L8 e2);ext u<;>ext e1
  apply#[_,rfl]
def WE{K:Frag}(q:Li K x l=true):∃a,nsIn K mainGlobals x=some (some (.ref a))/\A0 K a l:=by
 unfold Li at q
 split at q
 .rename_i a h;refine#[a,h,?_]
  split at q
  .rename_i c ay n sl h1;simp only[aaV,ahp,decide_eq_true_eq] at q;apply#[_,ay,_,h1,q.1.1,rfl,rfl,q.1.2,L8 q.2]
  .cases q
 .cases q
theorem qu:∀{l:List (Str×β)},l.lookup x=some y->(x,y)∈l
 |[],e=>nomatch e
 |(a,b)::l,e=>by
  rw[aeW] at e
  by_cases h:(x==a)=true
  .rw[h] at e;ext e;rw[eq_of_beq h];apply .head _
  .rw[show(x==a)=false by simpa using h] at e;apply .tail _ (qu e)
def P_{K:Frag}(h:ek K r=true):nu K (cA K r):=by
 unfold ek at h;simp only[aaV,ahp] at h;let#[#[#[#[#[#[h1,h2],h3],h4],h5],h6],h7]:=h;apply#[h1,h2,h3,h4,h5,h6,h7,V6 h6]
def WI{L:Ls}{K:Frag}(X:K.In h)(G:h.Ns mainGlobals mg)(q:tL L K=true):En L #[P,w,K,mg,base]:=by
 unfold tL at q;simp only[aaV,aei,ahp] at q;let#[#[#[#[#[#[qi,qx],q1],q2],q3],q4],q5]:=q;unfold Mt at qx;simp only[aaV,aei,ahp,afg] at qx;let#[#[#[#[x1,x2],x3],x4],x5]:=qx;have cx:∀{r} {C},r∈L.ex->nsIn K mainGlobals r=some (some (.ref C))->C=cA K r:=λm e=>by
  rw[x1 _ m] at e;ext e;rfl
 have cl:∀c:Str,L.cl.contains c=true->yQ K c=true:=λc h=>q4 c (afg.mp h)
 refine#[λh=>mg_none_of X G (q1 _ (afg.mp h)),λ{x n} h=>?_,λh=>?_,λc h=>?_,λ{c} h=>?_,λh=>q5 _ (afg.mp h),λh=>?_,λh=>x1 _ (afg.mp h),λh=>mg_of X G (x1 _ (afg.mp h)),λh=>abT (x2 _ (afg.mp h)),λh cn C h1 hn=>?_,λh cn b C h1 hn=>?_,λh cn b C h1 hn=>?_]
 .have:=q2 _ (qu h);unfold Th at this
  split at this
  .rename_i m t e;cases eq_of_beq this;apply#[t,mg_of X G e]
  .cases this
 .let#[a,e,t]:=WE (q3 _ (qu h));apply#[a,mg_of X G e,t]
 .have:=cl c h;unfold yQ at this;simp only[aaV,ahp] at this;let#[#[#[#[#[#[h1,h2],h3],h4],h5],_],_]:=this;apply#[h1,#[h2,h3,h4,h5]]
 .have:=cl c h;unfold yQ at this;simp only[aaV,ahp] at this;apply mg_of X G this.1.1.1.1.1.1
 .rw[h] at qi;apply qi
 .let#[#[a1,a2],a3]:=x3 _ (qu h);let#[#[b1,b2],b3]:=a3 cn (afg.mp h1);cases cx b2 hn;apply Wq (LB (x2 _ b1)) (LB (x2 _ a1)) b3 a2
 .let#[#[a1,a2],a3]:=x4 _ (qu h) _ (qu h1);cases cx a1 hn;apply#[P_ a2,a3]
 .let#[#[a1,a2],a3]:=x5 _ (qu h) _ (qu h1);cases cx a1 hn;apply#[P_ a2,a3]
def ahK{K:Frag}(q:tL L K=true)(h:L.cl.contains c=true):makesIn K (cA K c)=true/\keepIn K (.ref (cA K c))=true:=by
 unfold tL at q;simp only[aaV,aei] at q;have:=q.1.2 c (afg.mp h);unfold yQ at this;simp only[aaV] at this;apply#[this.1.2,this.2]
def RG{K:Frag}(e:Jk K q v=some (fnOf x q (lP s) (iz s) (c8 s) .none .none .none .none none .none .none)):∃f,v=some (some (.ref f))/\isFn K (.ref f)=true/\GL K x q s f:=by
 unfold Jk at e
 split at e
 .rename_i a
  split at e
  .rename_i oc od fd sl h;let#[hc,e]:=ci e;simp only[aaV] at hc;refine#[a,rfl,hc.2,?_];let#[n,qn,pa,bo,sc,gl,cl,df,kw,dc,pm,an,cd,ct,bi]:=fd;unfold QT at e;injection e with e;injection e with e1 e2 e3 e4 e5 e6 e7 e8 e9 e10 N3 e12 e13 e14 ZL;subst e1 e2 e3 e4 e5 e6 e7 e8 ZL;apply#[_,_,_,_,_,_,_,_,_,h,hc.1.1,hc.1.2]
  .cases e
 .cases e
def R_{K:Frag}{tab:List (Str×Stmt)}{i:Nat}(t:tab.map (look K)=tab.map want)(e:tab[i]? = some p):look K p=want p:=by
 have:=congrArg (·[i]?) t;simp only[adm,e,Option.map_some] at this;apply ach this
def Cq{K:Frag}{tab:List (Str×Stmt)}(i:Nat){s:Stmt}(t:tab.map (look K)=tab.map want)(e:tab[i]? = some (Str.empty,s)):Bx K (gP s) s:=by
 let#[f,h,_,g]:=RG (R_ t e);apply#[f,h,g]
def Qd{K:Frag}{tab:List (Str×Stmt)}(i:Nat){c:Str}(t:tab.map (look K)=tab.map want)(e:tab[i]? = some (c,s))(n:(c==Str.empty)=false):GM K (cA K c) (gP s) (jz c s) s:=by
 let#[f,h,i,g]:=RG (R_ t e);refine#[f,?_,i,g];rw[n] at h;apply h
section
variable(z:Z)(k:Nat)(c:Str)(s:Stmt)(sp:Frag->Sp)(cm:Bool:=true)
def Z.D:Prop:=∀(f) (fd),iR z.K (gP s) (jz c s) s f fd->b_ z.P z.w z.K z.mg z.base dO k f fd (jb s) (sp z.K) cm
def Z.DR:Prop:=∀(f) (fd),iR z.K (gP s) (jz c s) s f fd->b_ z.P z.w z.K z.mg z.base (iP z.P z.w) k f fd (jb s) (sp z.K) cm
def Z.N:Prop:=FN z.P z.w z.K z.mg z.base dO k (gP s) (jb s) (sp z.K) cm
def Z.M:Prop:=MT z.P z.w z.K z.mg z.base dO k (cA z.K c) (gP s) (jb s) (sp z.K) cm
def Z.I:Prop:=MI z.P z.w z.K z.mg z.base dO k (cA z.K c) (jb s) (sp z.K) cm
end
section
variable{K:Frag}
def FN.G(W:FN P w K mg base CX k x ps sp cm):b_ P w K mg base CX k W.choose W.choose_spec.choose ps sp cm:=W.choose_spec.choose_spec.1
def FN.m(W:FN P w K mg base CX k x ps sp cm):mg x=some (.ref W.choose):=W.choose_spec.choose_spec.2.1
def FN.kp(W:FN P w K mg base CX k x ps sp cm):keepIn K (.ref W.choose)=true:=W.choose_spec.choose_spec.2.2.1
def FN.b(W:FN P w K mg base CX k x ps sp cm):Binds K W.choose_spec.choose ps []:=W.choose_spec.choose_spec.2.2.2
def MT.G(W:MT P w K mg base CX k C x ps sp cm):b_ P w K mg base CX k W.choose W.choose_spec.choose ps sp cm:=W.choose_spec.choose_spec.1
def MT.b(W:MT P w K mg base CX k C x ps sp cm):Binds K W.choose_spec.choose ps []:=W.choose_spec.choose_spec.2.1
def MT.t(W:MT P w K mg base CX k C x ps sp cm):mE K C x W.choose:=W.choose_spec.choose_spec.2.2
def MI.G(W:MI P w K mg base CX k C ps sp cm):b_ P w K mg base CX k W.choose W.choose_spec.choose ps sp cm:=W.choose_spec.choose_spec.1
def MI.b(W:MI P w K mg base CX k C ps sp cm):Binds K W.choose_spec.choose ps []:=W.choose_spec.choose_spec.2.1
def MI.M(W:MI P w K mg base CX k C ps sp cm):Mk K C W.choose:=W.choose_spec.choose_spec.2.2
end
def lF(s:Stmt):List Str:=(c8 s).names.filterMap λy=>if y.2 == .local||y.2 == .cell then some y.1 else none
def A8(n m:Nat)(s:Stmt):Prop:=mY (lF s) (jb s) (c8 s)/\(jb s).length=n/\(lF s).length=m/\n<=m
section
variable{z:Z}
def Z.oF(S:A8 n m s)(h:∀(f) (fd:FuncData) (aV:{c:Value // c=fd.code}) (A) (o) (t) (H) (E),bx k (A.deeper (envOfC (jz c s) (c8 s) t.heap.objs.size f aV)) cm->(lF s).Nodup->FS (g_ dO z.P z.w z.K z.mg z.base (lF s) (jz c s) (c8 s) f aV A o t H E cm).i7 (iz s) b):
  z.D (k+1) c s (aX · (bu n m b)) cm:=by
 let#[S,rfl,rfl,_]:=S;apply λ_ _ F=>DM F S λaV A o t H E hr=>h _ _ aV A o t H E hr S.nd
def Z.oQ(S:A8 n m s)(h0:(lF s)[0]? = some x0)(h:∀(f) (aV) (A) (o) (t) (H) (E),bx k (A.deeper (envOfC (jz c s) (c8 s) t.heap.objs.size f aV))->(lF s).Nodup->DP im ((g_ dO z.P z.w z.K z.mg z.base (lF s) (jz c s) (c8 s) f aV A o t H E).i7.oq [x0]) (iz s) b):
  z.D (k+1) c s (IT im · (runM n m b)):=by
 let#[S,rfl,rfl,l]:=S;apply λ_ _ F=>acr F S h0 λaV A o t H E hr=>h _ aV A o t H E hr S.nd
def Z.oM(S:A8 n m s)(h0:(lF s)[0]? = some x0)(h:∀(f) (aV) (A) (o) (t) (H) (E),bx k (A.deeper (envOfC (jz c s) (c8 s) t.heap.objs.size f aV))->(lF s).Nodup->DP true ((g_ dO z.P z.w z.K z.mg z.base (lF s) (jz c s) (c8 s) f aV A o t H E).i7.oq [x0]) (iz s) b):
  z.D (k+1) c s (dQ · (runM n m b)):=λ_ _ F=>(Z.oQ S h0 h _ _ F).imp afh
def Z.oR(S:A8 n m s)(h:∀(f) (aV) (A) (o) (t) (H) (E),bx k (A.deeper (envOfC (jz c s) (c8 s) t.heap.objs.size f aV))->(lF s).Nodup->FS (g_ (iP z.P z.w) z.P z.w z.K z.mg z.base (lF s) (jz c s) (c8 s) f aV A o t H E) (iz s) b):
  z.DR (k+1) c s (sI · (rq n m b)):=by
 let#[S,rfl,rfl,l]:=S;apply λ_ _ F=>U4 F S l λaV A o t H E hr=>h _ aV A o t H E hr S.nd
end
section
variable{K:Frag}{tab:List (Str×Stmt)}
def eS(X:K.In h)(G:h.Ns mainGlobals mg)(t:tab.map (look K)=tab.map want)(i:Nat)(o:Z.D #[P,w,K,mg,base] k Str.empty s sp cm)(b:BA (gP s) (gP s) s (jb s):=by walk_at "ba")(e:tab[i]? = some (Str.empty,s):=by rfl):Z.N #[P,w,K,mg,base] k s sp cm:=Ro X G (Cq i t e) (λF=>o _ _ F) b
def dG(t:tab.map (look K)=tab.map want)(i:Nat)(o:Z.D #[P,w,K,mg,base] k c s sp cm)(b:BA (gP s) (jz c s) s (jb s):=by walk_at "ba")(e:tab[i]? = some (c,s):=by rfl)(n:(c==Str.empty)=false:=by rfl):Z.M #[P,w,K,mg,base] k c s sp cm:=mtW (Qd i t e n) (λF=>o _ _ F) b
def Ip(t:tab.map (look K)=tab.map want)(q:tL L K=true)(i:Nat)(o:Z.D #[P,w,K,mg,base] k c s sp cm)(b:BA (gP s) (jz c s) s (jb s):=by walk_at "ba")(e:tab[i]? = some (c,s):=by rfl)(n:(c==Str.empty)=false:=by rfl)(y:gP s="__init__":=by rfl)(v:L.cl.contains c=true:=by rfl):Z.I #[P,w,K,mg,base] k c s sp cm:=by
 have l:=Qd i t e n;let#[a,b']:=ahK q v;let#[f,e1,i,l]:=l;let#[kp,fd,F]:=Cd l;rw[y] at e1;apply#[f,fd,o _ _ F,F.binds b,#[a,e1,i,b']]
end
section
variable{st:Stmt}
def ba_n(n:Nat)(h:ps.length=n)(e:∀(kV doc pm) (an) (aV ct) (f:Fin n->Value),bindArgs (fnOf x q (lP st) (iz st) (c8 st) .none kV doc pm an aV ct) #[List.ofFn f,[]]=pure (ps.zip (List.ofFn f))):BA x q st ps:=λkV doc pm an aV ct us hl=>by
 obtain rfl:=hl.trans h;have:=e kV doc pm an aV ct λi=>us[(i:Nat)]
 rwa [List.ofFn_getElem] at this
end
def pR(h:∃t,X.mg x=some (.int n t))(hg:GD X x:=by apply#[rfl,by decide]):FP X (.Name x pos) (eC (.int n)):=let#[_,h]:=h;ab0 h hg
def Nx(h:∃t,X.mg x=some (.ref t)/\A0 X.K t ys)(hg:GD X x:=by apply#[rfl,by decide]):FP X (.Name x pos) (eC (.tup (ys.map D.str))):=let#[_,h,t]:=h;ah2 h t hg
def fZ(h3:X.env.kindOf=λx=>X.env.scope.names.lookup x)(h:xJ X.N X.env.scope sc M js=true):oN X M js sc:=ahz rfl rfl h3 h
section
variable{A:Z->Prop}
abbrev wF{F:List D->Option D}(_:∀z,A z->z.D k c s (aX · F) cm)(z:Z):Prop:=z.N k s (aX · F) cm
abbrev wG{F:List D->Option D}(_:∀z,A z->z.D k c s (aX · F) cm)(z:Z):Prop:=z.M k c s (aX · F) cm
abbrev wO{F:MF}(_:∀z,A z->z.D k c s (dQ · F) cm)(z:Z):Prop:=z.M k c s (dQ · F) cm
abbrev wI{F:MF}(_:∀z,A z->z.D k c s (dQ · F) cm)(z:Z):Prop:=z.I k c s (dQ · F) cm
abbrev fF{F:List D->Option D}(_:∀z,A z->z.D k c s (aX · F) cm):List D->Option D:=F
abbrev fO{F:MF}(_:∀z,A z->z.D k c s (dQ · F) cm):MF:=F
abbrev fR{F:List D->Option Rz}(_:∀z,A z->z.DR k c s (sI · F) cm):List D->Option Rz:=F
end
def qS(Y:aU)(j:Nat):aU:=(Y.map (Gg j)).set j none
def Ok.out{K:Frag}(ok:Ok K H0 S z au Y U H)(hj:Y[j]? = some (some (d,.own)))(r:Rep K H d v fp)(hz:∀a∈fp,z a=some j):
  ∃z',Ok K H0 S z' au (qS Y j) U (λc=>if c∈fp then none else H c):=by
 classical
 have im:bh H (λc=>if c∈fp then none else H c):=by
  have st:∀{c} {o},H c=some o->lJ o=false->(if c∈fp then none else H c)=some o:=λ{c o} e mo=>by
   rw[abo λm=>?_]
   .exact e
   .let#[o',w,zW]:=r.dW c m;rw[e] at w;ext w;rw[mo] at zW;ext zW
  apply#[λc xs e=>st e rfl,λc o u e=>st e rfl,λc φ e=>st e rfl]
 have fr:∀{d v g},Rep K H d v g->(∀a∈g,z a≠some j)->Rep K (λc=>if c∈fp then none else H c) d v g:=λr h=>r.frame (λa m=>abo λq=>h a m (hz a q)) im
 have at_:∀{a k},(if z a=some j then none else z a)=some k->z a=some k/\k≠j:=λ{a k} e=>by
  by_cases h:z a=some j
  .rw[if_pos h] at e;ext e
  .rw[abo h] at e;apply#[e,λq=>h (q ▸ e)]
 refine#[λa=>if z a=some j then none else z a,λk d t e=>?_,λp m=>?_,λa k e=>?_,λa o e n=>?_,?_]
 .unfold qS at e
  by_cases hk:k=j
  .subst hk;rw[aeT (by rw[List.length_map];apply(ac0.mp hj).1)] at e;ext e
  .rw[ac8 (agM hk),adm] at e;let#[s,e0,e]:=adq.mp e;let#[rfl,h2]:=Ei e;let#[v,g,hs,r1,zz]:=ok.sl k d t e0;have own:(∀a∈g,z a=some k)->∀a∈g,z a≠some j:=λh a m q=>by rw[h a m] at q;apply hk (ach q)
   cases t with
   |sh o=>apply#[v,g,hs,fr r1 λa m q=>h2 o rfl (zz a m j q),λa m i e=>zz a m i (at_ e).1]
   |own=>apply#[v,g,hs,fr r1 (own zz.2),zz.1,λa m=>(abo (own zz.2 a m)).trans (zz.2 a m)]
   |lk=>apply#[v,g,hs,fr r1 (own zz.2),zz.1,λa m=>(abo (own zz.2 a m)).trans (zz.2 a m)]
 .let#[r1,h]:=ok.hl p m;refine#[fr r1 λa m q=>(h a m j q).2 d hj,λa m k e=>?_];let#[h1,h2]:=h a m k (at_ e).1;refine#[h1,λd' q=>h2 d' ?_];unfold qS at q;rw[ac8 (agM (at_ e).2),adm] at q;let#[s,e0,q]:=adq.mp q;rw[e0,(Ei q).1]
 .let#[e1,e2]:=at_ e;let#[#[o,w],y]:=ok.zd a k e1;apply#[#[o,(abo λm=>by rw[hz a m] at e1;apply e2 (ach e1).symm).trans w],y]
 .show(if a∈fp then none else H a)=some o;rw[abo λm=>?_]
  .exact ok.en a o e n
  .rcases(ok.zd a j (hz a m)).2 with w|w
   .rw[e] at w;ext w
   .exact n w
 .unfold qS;rw[ahn,List.length_map];apply ok.ln
end L2.Ev
namespace L2
open PySem PySem.Spec PyProof.Rows
theorem KV.at{κ:Type}:∀{ak:List (κ×V)}{vs:List (κ×Value)}{i:Nat}{p:κ×V},KV ak vs->ak[i]? = some p->∃q,vs[i]? = some q/\p.1=q.1
 |_,_,i,p,.nil,e=>by simp at e
 |_,_,0,p,.cons r _,e=>by ext e;apply#[_,rfl,r.1]
 |_,_,i+1,p,.cons _ t,e=>KV.at (i:=i) t e
end L2
namespace L2.Ev
open PySem PySem.Spec PyProof.Rows
def SG:D->Option Str
 |.tup (.str s::_)=>some s
 |_=>none
open PySem PySem.Spec PySem.W PyProof.Rows
def Z.NR(z:Z)(k:Nat)(s:Stmt)(sp:Frag->Sp)(cm:Bool:=true):Prop:=FN z.P z.w z.K z.mg z.base (iP z.P z.w) k (gP s) (jb s) (sp z.K) cm
def Wh{K:Frag}{tab:List (Str×Stmt)}(X:K.In h)(G:h.Ns mainGlobals mg)(t:tab.map (look K)=tab.map want)(i:Nat)(o:Z.DR #[P,w,K,mg,base] k Str.empty s sp cm)(b:BA (gP s) (gP s) s (jb s):=by walk_at "ba")(e:tab[i]? = some (Str.empty,s):=by rfl):Z.NR #[P,w,K,mg,base] k s sp cm:=Ro X G (Cq i t e) (λF=>o _ _ F) b
section
variable{A:Z->Prop}
abbrev wNR{F:List D->Option Rz}(_:∀z,A z->z.DR k Str.empty s (sI · F) cm)(z:Z):Prop:=z.NR k s (sI · F) cm
end
def tyI:D->Option String
 |.int _=>some "int"
 |.str _=>some "str"
 |.tup _=>some "tuple"
 |.dH _=>some "list"
 |.lst _=>some "list"
 |_=>none
def J8(T Uz:String)(d:D):Option D:=(tyI d).map λt=>.bl (t==T||t==Uz)
def EV(T Uz:String):Prop:=∀K t,t∈["int","str","tuple","list"]->PySem.W.kitAny K (.type t) [.type T,.type Uz]=some (t==T||t==Uz)
def WL:EV "tuple" "list":=by
 intro K t m;simp only[aaO,acL,aiE] at m;rcases m with rfl|rfl|rfl|rfl<;>rfl
def YO:EV "int" "str":=by
 intro K t m;simp only[aaO,acL,aiE] at m;rcases m with rfl|rfl|rfl|rfl<;>rfl
def V8(T Uz:String):gI X (.builtin "isinstance") (λxs H Q=>∃x l b,xs=[x,V.ref l]/\H l=some (.tup [V.ty T,V.ty Uz])/\Q (.bl b) H/\((∃i,x=.int i/\PySem.W.kitAny X.K (.type "int") [.type T,.type Uz]=some b)\/(∃y,x=.str y/\PySem.W.kitAny X.K (.type "str") [.type T,.type Uz]=some b)\/
  (∃a ys,x=.ref a/\cE X.K H a ys/\PySem.W.kitAny X.K (.type "tuple") [.type T,.type Uz]=some b)\/∃a ys,x=.ref a/\bY X.K H a ys/\PySem.W.kitAny X.K (.type "list") [.type T,.type Uz]=some b)):=by
 intro af s U H xs us Q I r h;let#[x,l,b,rfl,hl,q,hx]:=h;let#[u,w',rfl,ru,eB]:=vals2 r;cases(show w'=Value.ref l from eB);let#[_,ay,rv,o,ho,hc,hd,n,mO]:=(show[V.ty T,V.ty Uz].length<=sizeLine/\∃ay:List Value,aR [V.ty T,V.ty Uz] ay/\kZ s.heap l ay.toArray from I.aG l _ hl)
 have hi:ay=[.type T,.type Uz]:=by
  cases rv with
  |cons h1 t1=>
   cases t1 with
   |cons h2 t2=>
    ext t2;ext h1;ext h2;rfl
 subst hi;let#[cl,dd,dat,sl]:=o;ext hc;ext mO;have z:∀tk,EP X af U Q (.bool b) { s with toks:=tk }:=λtk=>#[.bl b,H,I.tok tk,rfl,q]
 rcases hx with⟨i,rfl,e⟩|⟨y,rfl,e⟩|⟨a,ys,rfl,hq,e⟩|⟨a,ys,rfl,hq,e⟩
 .let#[t,rfl]:=ru;apply PySem.W.kia_tup PySem.W.kitx_int I.cU True.intro ho e (λz=>nomatch z) z
 .let#[t,rfl]:=ru;apply PySem.W.kia_tup PySem.W.kitx_str I.cU True.intro ho e (λz=>nomatch z) z
 .cases(show u=Value.ref a from ru);let#[ay,_,#[o,h1,h2,_],_]:=I.tuple hq;apply PySem.W.kia_tup PySem.W.kitx_tuple I.cU #[o,h1,h2] ho e (λz=>nomatch z) z
 .cases(show u=Value.ref a from ru);let#[ay,_,#[o,n,h1,h2,_],_]:=I.list hq;apply PySem.W.kia_tup PySem.W.kitx_list I.cU #[o,h1,h2] ho e (λz=>nomatch z) z
def Nd{T Uz:String}{x y:Str}{p p2 p4 p5:Pos}{x1}(hT:EV T Uz)(hm:X.mg "isinstance"=none)(VY:X.mg x=none)(ZF:X.mg y=none)(ha:FP X a fa)(sG:bootBuiltins x=some (.type T):=by decide +kernel)(hbU:bootBuiltins y=some (.type Uz):=by decide +kernel)(hg:Gl X "isinstance":=by rfl)(Wj:Gl X x:=by rfl)(Wi:Gl X y:=by rfl)(hn:x≠"__name__":=by decide)(eU:(x==("__debug__":Str))=false:=by decide)(vN:y≠"__name__":=by decide)(afp:(y==("__debug__":Str))=false:=by decide)
  (hs:starEach [a,.Tuple [.Name x p4,.Name y p5] x1 p2] X.env=[(false,eval a X.env),(false,eval (.Tuple [.Name x p4,.Name y p5] x1 p2) X.env)]:=by rfl) (hpl:(backTo pos (starEach [.Tuple [.Name x p4,.Name y p5] x1 p2] X.env)).any (·.1)=false:=by rfl):FP X (.Call (.Name "isinstance" p) [a,.Tuple [.Name x p4,.Name y p5] x1 p2] [] pos) (e1 (J8 T Uz) fa):=by
 let#[t,pa,sa]:=ha;have ck:starEach [.Tuple [.Name x p4,.Name y p5] x1 p2] X.env=[(false,eval (.Tuple [.Name x p4,.Name y p5] x1 p2) X.env)]:=rfl;have pc:=cV (z7 (X:=X) (pos:=p4) (v:=.ty T) Wj VY sG rfl hn eU) (cV (z7 (X:=X) (pos:=p5) (v:=.ty Uz) Wi ZF hbU rfl vN afp) fq);exists 21,o9 (V8 T Uz) hg hm (show bootBuiltins "isinstance"=some (.builtin "isinstance") by decide +kernel) (cV pa (cV (Cs pc) fq) (by rw[hs,ck])) (he:=by rw[hs,ck]) (hpl:=hpl);let#[d1,t1,h1,h2,rfl]:=ng e;refine sa ok h1 λH1 v fp s1 r1 _=>?_
 refine#[by show(2:Nat)<=sizeLine;decide,λl hl=>?_];have s2:aI H1 (upd H1 l (.tup [V.ty T,V.ty Uz])):=λb o e=>by rw[aN (cX e hl)];apply e
 let#[t,ht,rfl]:=adq.mp h2;refine#[_,l,_,rfl,bX,k _ _ [] (s1.trans s2) (.bl _) .nil,?_];ext d1<;>first|(ext ht;done)|skip
 .cases ht;ext r1;apply .inl #[_,rfl,hT _ _ (by decide)]
 .cases ht;ext r1;apply .inr (.inl #[_,rfl,hT _ _ (by decide)])
 .cases ht;let#[w,xs,rfl,hq,_]:=r1.jB;apply .inr (.inr (.inl #[w,xs,rfl,hq.elim (λh=>.inl (h.elim (λh=>.inl (s2 _ _ h)) λ⟨o,h⟩=>.inr #[o,s2 _ _ h])) .inr,hT _ _ (by decide)]))
 .cases ht;let#[w,xs,f,rfl,hq,_]:=r1.d_;apply .inr (.inr (.inr #[w,xs,rfl,s2.seq hq,hT _ _ (by decide)]))
 .cases ht;let#[w,xs,rfl,hq,_]:=r1.qQ;apply .inr (.inr (.inr #[w,xs,rfl,s2.seq hq,hT _ _ (by decide)]))
def Dl(f0:EF)(j:Nat):XR:=λY=>(f0 Y).bind λp=>(Y[j]?).bind fun
 |some (.lst ds,.own)=>if aH p.1=true/\aP ds=true then some (.ok (.tup [p.1,.dH ds]) (qS Y j)) else none
 |_=>none
def agS(j:Nat){y:Str}{p1:Pos}{x1}(h0:FP X.i7 a f0)(va:VA X.i7 j y:=by walk_at "va")(hs:starEach [a,.Name y p1] X.env=(false,eval a X.env)::starEach [.Name y p1] X.env:=by rfl)(ck:starEach [.Name y p1] X.env=[(false,eval (.Name y p1) X.env)]:=by rfl):
  FE X (.Tuple [a,.Name y p1] x1 pos) (Dl f0 j):=by
 classical
 let#[t0,p0,q0]:=h0;refine#[_,ZY (Cs (cV p0 (cV (MW va.pe) fq ck) hs)),@λH0 S z au Y U H Q E r ok e k=>?_];unfold Dl at e;let#[#[d0,t],e0,e]:=aeM.mp e;let#[w,e1,e]:=aeM.mp e;cases w with
 |none=>ext e
 |some w=>
 let#[d,tg]:=w;cases d with
 |lst ds=>
  cases tg with
  |own=>
   have e:(if aH d0=true/\aP ds=true then some (ER.ok (D.tup [d0,D.dH ds]) (qS Y j)) else none)=some r:=e
   by_cases hi:aH d0=true/\aP ds=true
   .rw[if_pos hi] at e;ext e;refine q0 ok e0 λH1 v0 g0 s1 r0 _=>?_
    have hn:=r0.aH hi.1;subst hn;let#[v,fj,hv,rj,zz]:=ok.sl j _ _ e1;let#[z',bg]:=ok.out e1 rj zz.2;cases rj with
    | @lst b xs _ f' hb rs=>
     have hn:=rs.aH hi.2;subst hn;have h1:=s1 _ _ hb;refine#[_,hv,b,xs,rfl,h1,λo=>#[by show(2:Nat)<=_;apply af4 (vD (by decide)),λc hc=>?_]];have cb:c≠b:=λz=>by rw[z,bX] at hc;ext hc
     have im:=bh.upd h1 (o':=.dZ o (.lst xs)) rfl;have sc:aI (upd H1 b (.dZ o (.lst xs))) (upd (upd H1 b (.dZ o (.lst xs))) c (.tup [v0,.ref b])):=λb o e=>by rw[aN (cX e hc)];apply e
     refine k z' _ _ _ [] bg (λb' o' e'=>?_) (.tup (cE.of bX) (.cons ((r0.frame (λa m=>nomatch m) im).same sc) (.cons ((Rep.uT (.inl #[o,bX]) ((rs.same s1).frame (λa m=>nomatch m) im)).same sc) .nil))) #[.nil,λ_ m=>nomatch m]
     by_cases m:b'∈[b]
     .rw[show(if b'∈[b] then none else H b')=none from if_pos m] at e';ext e'
     .refine sc _ _ ?_;rw[aN λz=>m (aav.mpr z)];apply s1 _ _ ((abo m).symm.trans e')
   .rw[abo hi] at e;ext e
  |_=>ext e
 |_=>ext e
end L2.Ev
namespace K65
open PySem L2 L2.Ev
local macro_rules | `(tactic| walk_at "s")=>`(tactic| apply #[#[rfl,rfl,rfl,by decide +kernel,rfl,by decide +kernel,by decide +kernel],rfl,rfl,by decide])
set_option hygiene false
local macro_rules | `(tactic| exists 1,$a)=>`(tactic| apply Z.oF (by walk_at "s") fun _ _ _ _ _ _ _ _ hr nd=>by apply $a)
local macro_rules | `(tactic| exists 2,$a)=>`(tactic| apply Z.oM (by walk_at "s") rfl fun _ _ _ _ _ _ _ hr nd=>by apply $a)
local macro_rules | `(tactic| exists 5,$a)=>`(tactic| apply Z.oR (by walk_at "s") fun _ _ _ _ _ _ _ hr nd=>by apply $a)
set_option hygiene true
def d8{z:Z}(E:En L z):ClsAt z.K "Changes" (cA z.K "Changes"):=E.c _ rfl
def aF{z:Z}(E:En L z):ClsAt z.K "Gate" (cA z.K "Gate"):=E.c _ rfl
def jE{z:Z}(E:En L z):ClsAt z.K "Tally" (cA z.K "Tally"):=E.c _ rfl
def EU:=λ(z:Z) (E:En L z)=>(by exists 1,(aL (cL (CM (ah 1) (jk (E.b rfl) (ah 0))) (aK (aT (iG (ah 0) (ah 1)))) cJ) (aK (aT aD))):z.D 1 Str.empty (top 53) (aX · (bu 2 2 _)))
abbrev ZZ:=fF EU
def afD:=wF EU
def Jf:=λ(z:Z) (E:En L z)=>(by exists 1,(aK (aT (pA (pA (IM (pA (ah 0) aD) aD) (ah 1)) (ah 2)))):z.D 1 Str.empty (top 54) (aX · (bu 3 3 _)))
abbrev sA:=fF Jf
def Qn:=wF Jf
def D6:=λ(z:Z) (E:En L z)=>(by exists 1,(aK (aT (kC (Lh V_ (E.b rfl) (E.b rfl) (ah 0)) (kC (Ly (Lh PU (E.b rfl) (E.b rfl) (ah 0))) (nC (Wa (ah 1) (ah 0) (ah 2))))))):z.D 1 Str.empty (top 12) (aX · (bu 3 3 _)))
abbrev nG:=fF D6
def xQ:=wF D6
def Hj:=λ(z:Z) (E:En L z/\xQ z)=>(by let#[E,p]:=E;exists 1,(aK (aT (kC (aO p.G hr.m p.m p.kp p.b (ai (ah 1) (ai aD (ai (pR (E.i rfl)) aq)))) (nC (aO p.G hr.m p.m p.kp p.b (ai (ah 0) (ai aD (ai (ah 1) aq)))))))):z.D 2 Str.empty (top 46) (aX · (bu 2 2 _)))
abbrev aaG:=fF Hj
def SY:=wF Hj
def Q0:=λ(z:Z) (E:En L z)=>(by exists 2,(d9 (b8 (f6 0 (d8 E) (E.n rfl) (cO aq)))):z.D 1 "Changes" (inClass (top 26) 0) (dQ · (runM 1 1 _)))
def S7:=wI Q0
def DV:=λ(z:Z) (E:En L z/\SY z/\xQ z/\S7 z)=>(by let#[E,p,q,u]:=E;exists 2,(bT (iF (fM (FW.ft (CO (dh (aO q.G hr.m q.m q.kp q.b (ai (ah 1) (ai aD (ai (pR (E.i rfl)) aq))))) (CO (dh (aO q.G hr.m q.m q.kp q.b (ai (ah 2) (ai aD (ai (pR (E.i rfl)) aq))))) (Kl (dh (aO p.G hr.m p.m p.kp p.b (ai (ah 3) (ai (ah 4) aq))))))))) (d9 qd) jS) (bT (b8 (f6 0 (aF E) (E.n rfl) (cD (ai (ah 1) (ai (ah 2) (ai (ah 3) (ai (ah 4) aq))))))) (bT (b8 (f6 0 (aF E) (E.n rfl) (Rw (d8 E).ns u.M u.G hr.m (E.m rfl) u.b))) (bT (b8 (f6 0 (aF E) (E.n rfl) (cO aq))) (bT (b8 (f6 0 (aF E) (E.n rfl) (cO aq))) (bT (b8 (f6 0 (aF E) (E.n rfl) Y5)) (bT (b8 (f6 0 (aF E) (E.n rfl) Yk)) (bT (b8 (f6 0 (aF E) (E.n rfl) (cO aq))) (bT (b8 (f6 0 (aF E) (E.n rfl) eN)) (bT (b8 (f6 0 (aF E) (E.n rfl) (cO aq))) (bT (b8 (f6 0 (aF E) (E.n rfl) (cO aq))) (bT (b8 (f6 0 (aF E) (E.n rfl) aD)) (d9 (b8 (f6 0 (aF E) (E.n rfl) aD))))))))))))))):z.D 3 "Gate" (inClass (top 51) 0) (dQ · (runM 5 5 _)))
abbrev zO:=fO DV
def yq:=wI DV
def HE:=λ(z:Z) (E:En L z)=>(by exists 1,(aK (aT (Ca rfl (E.b rfl) (iT (M:=["low","high"]) (js:=[none,none]) (fZ rfl (by kernel_rfl)) rfl (SO (E.b rfl) (ah 0) (JK AH Of (ah 0))) (by decide) λs3 H3 fp=>#[(vW rfl (jj (bG 0 (aaK rfl)) (jj (bG 1 (aaK rfl)) uV))),lH,(aae (ah 0) (ah 1))])))):z.D 1 Str.empty (top 13) (aX · (bu 1 1 _)))
abbrev aam:=fF HE
def M3:=wF HE
def EW:=λ(z:Z) (E:En L z)=>(by exists 1,(aK (aT (jk (E.b rfl) (bJ (d8 E) (E.n rfl) (ah 0))))):z.D 1 "Changes" (inClass (top 26) 2) (aX · (bu 1 1 _)))
abbrev Fc:=fF EW
def F0:=wG EW
def DL:=λ(z:Z) (E:En L z/\xQ z/\F0 z)=>(by let#[E,p,q]:=E;exists 1,(aK (aT (aO p.G hr.m p.m p.kp p.b (ai (ah 1) (ai aD (ai (eK (d8 E) q.t q.G hr.m q.b (ah 0)) aq)))))):z.D 2 "Changes" (inClass (top 26) 9) (aX · (bu 2 2 _)))
abbrev xH:=fF DL
def zE:=wG DL
def IK:=λ(z:Z) (E:En L z/\xQ z/\M3 z)=>(by let#[E,p,q]:=E;exists 1,(aL (iS rfl (eX (ah 0)) (vW rfl (jj (bG 1 nd) (jj (bG 2 nd) (jj (bG 3 nd) uV)))) (aL (cL (fM (FW.ft (CO (dh (aO p.G hr.m p.m p.kp p.b (ai (ah 1) (ai aD (ai (pR (E.i rfl)) aq))))) (Kl (dh (aO p.G hr.m p.m p.kp p.b (ai (ah 2) (ai aD (ai (pR (E.i rfl)) aq))))))))) (aK (aT eN)) cJ) (aK (cL (FW.ft (xw (fM (dh (aO p.G hr.m p.m p.kp p.b (ai (ah 3) (ai aD (ai (pR (E.i rfl)) aq)))))) (x9 (wg (ah 2) (ah 3))))) (aK (aT eN)) cJ)))) (aK (aT (aO q.G hr.m q.m q.kp q.b (ai (iT (M:=["edit"]) (js:=[none]) (fZ rfl (by kernel_rfl)) rfl (eX (ah 0)) (by decide) λs3 H3 fp=>#[(bG 0 (aaK rfl)),lH,(iG (ah 0) aD)]) aq))))):z.D 2 Str.empty (top 19) (aX · (bu 1 4 _)))
abbrev aaR:=fF IK
def ahM:=wF IK
def Gz:=λ(z:Z) (E:En L z/\xQ z/\M3 z/\zE z/\ahM z)=>(by let#[E,p,q,u,v]:=E;exists 1,(aL (cL (fM (dh (aO p.G hr.m p.m p.kp p.b (ai (ah 1) (ai aD (ai (pR (E.i rfl)) aq)))))) (aK (aT eN)) cJ) (aL (cL (FW.ft (xw (fM (dh (Ca rfl (E.b rfl) (iT (M:=["lean","self"]) (js:=[none,some 0]) (fZ rfl (by kernel_rfl)) rfl (eX (ah 2)) (by decide) λs3 H3 fp=>#[(bG 0 (aaK rfl)),lH,(fS (d8 E) u.t u.G hr.m u.b (ah 1) (ai (ah 0) aq))])))) (x9 (fM (dh (aO q.G hr.m q.m q.kp q.b (ai (ah 2) aq))))))) (aK (aT eN)) cJ) (aK (aT (kC (abz (jk (E.b rfl) (ah 3)) (pR (E.i rfl))) (nC (aO v.G hr.m v.m v.kp v.b (ai (ah 3) aq)))))))):z.D 3 "Changes" (inClass (top 26) 11) (aX · (bu 4 4 _)))
abbrev aeZ:=fF Gz
def abw:=wG Gz
def Kg:=λ(z:Z) (E:En L z/\abw z/\F0 z)=>(by let#[E,p,q]:=E;exists 2,(bT (iF (fM (dh (fS (d8 E) p.t p.G hr.m p.b (ah 0) (ai (ah 1) (ai (ah 2) (ai (ah 3) aq)))))) (d9 qd) jS) (bT (iF (An (eK (d8 E) q.t q.G hr.m q.b (ah 0)) (pR (E.i rfl))) (d9 qd) jS) (bT (b8 (Cm 0 (d8 E) (E.n rfl) (cD (ai (ah 1) (ai (wB (E.b rfl) (ah 2)) (ai (wB (E.b rfl) (iT (M:=["edit"]) (js:=[none]) (fZ rfl (by kernel_rfl)) rfl (eX (ah 3)) (by decide) λs3 H3 fp=>#[(bG 0 (aaK rfl)),lH,(wB (E.b rfl) (ah 0))])) aq)))))) (d9 (qD (eK (d8 E) q.t q.G hr.m q.b (ah 0))))))):z.D 4 "Changes" (inClass (top 26) 1) (dQ · (runM 4 4 _)))
abbrev B9:=fO Kg
def aes:=wO Kg
def II:=λ(z:Z) (E:En L z)=>(by exists 1,(aK (aT (kC (NF (ah 1) (bJ (aF E) (E.n rfl) (ah 0))) (kC (NF (ah 1) (bJ (aF E) (E.n rfl) (ah 0))) (nC (ahE (iy hr) (ah 1) (bJ (aF E) (E.n rfl) (ah 0)))))))):z.D 1 "Gate" (inClass (top 51) 19) (aX · (bu 2 2 _)))
abbrev abZ:=fF II
def aaY:=wG II
def KO:=λ(z:Z) (E:En L z/\F0 z/\aaY z)=>(by let#[E,p,q]:=E;exists 1,(aK (aT (iT (M:=["number","self"]) (js:=[none,some 0]) (fZ rfl (by kernel_rfl)) rfl (zF (E.b rfl) aD (ez (eK (d8 E) p.t p.G hr.m p.b (bJ (aF E) (E.n rfl) (ah 0))) aD)) (by decide) λs3 H3 fp=>#[(bG 0 (aaK rfl)),(jT (dh (fS (aF E) q.t q.G hr.m q.b (ah 1) (ai (ah 0) aq)))),(ah 0)]))):z.D 2 "Gate" (inClass (top 51) 8) (aX · (bu 1 1 _)))
abbrev B0:=fF KO
def A5:=wG KO
def Ia:=λ(z:Z) (E:En L z/\zE z)=>(by let#[E,p]:=E;exists 1,(aL (cL (fM (dh (fS (d8 E) p.t p.G hr.m p.b (ah 0) (ai (ah 1) aq)))) (aK nW) cJ) (aK (aT (iG (bJ (d8 E) (E.n rfl) (ah 0)) (u_ (ah 1) aD))))):z.D 3 "Changes" (inClass (top 26) 10) (aX · (bu 2 2 _)))
abbrev UI:=fF Ia
def F_:=wG Ia
def Gx:=λ(z:Z) (E:En L z/\F_ z)=>(by let#[E,p]:=E;exists 1,(aK (aT (mP (E.b rfl) (iG (fS (d8 E) p.t p.G hr.m p.b (ah 0) (ai (ah 1) aq)) aD)))):z.D 4 "Changes" (inClass (top 26) 4) (aX · (bu 2 2 _)))
abbrev Dt:=fF Gx
def HA:=wG Gx
def J4:=λ(z:Z) (E:En L z/\A5 z/\HA z)=>(by let#[E,p,q]:=E;exists 2,(d9 (b8 (iS rfl (eX (eK (aF E) p.t p.G hr.m p.b (ah 0))) (bG 1 nd) (aL (qY 2 (hN:=nd) (M:=["lean","self"]) (js:=[none,some 0]) (fZ rfl (by kernel_rfl)) rfl (eX (fS (d8 E) q.t q.G hr.m q.b (bJ (aF E) (E.n rfl) (ah 0)) (ai (ah 1) aq))) (by decide) λs3 H3 fp=>#[(bG 0 (aaK rfl)),(jT (Ku (iy hr) (ah 0) (bJ (aF E) (E.n rfl) (ah 1)))),(ah 0)]) (aK (cL (Jl (ah 2)) (aK (Dg 0 (iy hr) (aF E) (E.n rfl) (ah 1) (cD (ai bK (ai (iG (ah 2) aD) aq))))) cJ)))))):z.D 5 "Gate" (inClass (top 51) 24) (dQ · (runM 1 3 _)))
abbrev EM:=fO J4
def afa:=wO J4
def Io:=λ(z:Z) (E:En L z)=>(by exists 1,(aL (cL (An (QV (bJ (jE E) (E.n rfl) (ah 0)) bK) (bJ (jE E) (E.n rfl) (ah 0))) (aK (aT bK)) cJ) (aL (cL (An (QV (bJ (jE E) (E.n rfl) (ah 0)) bK) (bJ (jE E) (E.n rfl) (ah 0))) (aK (aT bK)) cJ) (aL (cL (An (jk (E.b rfl) (bJ (jE E) (E.n rfl) (ah 0))) (bJ (jE E) (E.n rfl) (ah 0))) (aK (aT bK)) cJ) (aK (aT bK))))):z.D 1 "Tally" (inClass (top 45) 3) (aX · (bu 1 1 _)))
abbrev N9:=fF Io
def MB:=wG Io
def El:=λ(z:Z) (E:En L z/\MB z)=>(by let#[E,p]:=E;exists 1,(aK (aT (SJ (ab9 (iy hr) (ah 1) (bJ (aF E) (E.n rfl) (ah 0))) (eK (jE E) p.t p.G hr.m p.b (ahY (iy hr) (bJ (aF E) (E.n rfl) (ah 0)) (ah 1) (by apply λ_ _=>rfl))) bK))):z.D 2 "Gate" (inClass (top 51) 21) (aX · (bu 2 2 _)))
abbrev Ac:=fF El
def EH:=wG El
def JI:=λ(z:Z) (E:En L z)=>(by exists 1,(aK (aT (wB (E.b rfl) (uU (bJ (aF E) (E.n rfl) (ah 0)) (E1 (bJ (aF E) (E.n rfl) (ah 0)) (ah 1)))))):z.D 1 "Gate" (inClass (top 51) 20) (aX · (bu 2 2 _)))
abbrev zI:=fF JI
def Jm:=wG JI
def DY:=λ(z:Z) (E:En L z/\EH z/\Jm z)=>(by let#[E,p,q]:=E;exists 1,(aL (iS rfl (zF (E.b rfl) aD (ez (jk (E.b rfl) (bJ (aF E) (E.n rfl) (ah 0))) aD)) (bG 1 nd) (aK (cL (aax (fS (aF E) p.t p.G hr.m p.b (ah 0) (ai (fS (aF E) q.t q.G hr.m q.b (ah 0) (ai (ah 1) aq)) aq)) (Nx (E.t rfl))) (aK (vY 1)) cJ))) (aK (aT lR))):z.D 3 "Gate" (inClass (top 51) 11) (aX · (bu 1 2 _)))
abbrev zY:=fF DY
def A6:=wG DY
def DH:=λ(z:Z) (E:En L z)=>(by exists 1,(aK (aT (adJ rfl (E.b rfl) (iT (M:=["slot","old","new","values"]) (js:=[none,none,none,some 0]) (fZ rfl (by kernel_rfl)) rfl (eX (ah 1)) (by decide) λs3 H3 fp=>#[(vW rfl (jj (bG 0 (aaK rfl)) (jj (bG 1 (aaK rfl)) (jj (bG 2 (aaK rfl)) uV)))),(jT (xq (adX (iy hr) (ah 3) (ah 0) aD) (ah 1))),(ah 0)]) lR))):z.D 1 Str.empty (top 20) (aX · (bu 2 2 _)))
abbrev Hz:=fF DH
def DE:=wF DH
def HY:=λ(z:Z) (E:En L z)=>(by exists 1,(aK (aT (iT (M:=["slot","values"]) (js:=[none,some 0]) (fZ rfl (by kernel_rfl)) rfl (eX (IS rfl (E.b rfl) (ah 0))) (by decide) λs3 H3 fp=>#[(bG 0 (aaK rfl)),(jT (xq (z_ (iy hr) (ah 1) (ah 0)) aD)),(cD (ai (ah 0) (ai (z_ (iy hr) (ah 1) (ah 0)) aq)))]))):z.D 1 Str.empty (top 21) (aX · (bu 1 1 _)))
abbrev Xa:=fF HY
def U6:=wF HY
def QH:=λ(z:Z) (E:En L z/\DE z/\U6 z)=>(by let#[E,p,q]:=E;exists 1,(aL (cj 2 (za rfl (E.b rfl) (ah 0)) nd) (aL (iS rfl (eX (ah 1)) (bG 3 nd) (aL (cj 4 (aO p.G hr.m p.m p.kp p.b (ai (ah 2) (ai (ah 3) aq))) nd) (aL (cL (Em (ah 4) lR) (aK nW) cJ) (aK (iS rfl (eX (ah 3)) (vW rfl (jj (bG 5 nd) (jj (bG 6 nd) (jj (bG 7 nd) uV)))) (aK (Ql 2 (iy hr) (ah 5) (ah 7)))))))) (aK (aT (aO q.G hr.m q.m q.kp q.b (ai (ah 2) aq)))))):z.D 2 Str.empty (top 18) (aX · (bu 2 8 _)))
def YR:=wF QH
def Ln:=λ(z:Z) (E:En L z/\F_ z)=>(by let#[E,p]:=E;exists 1,(aK (aT (mP (E.b rfl) (iG (fS (d8 E) p.t p.G hr.m p.b (ah 0) (ai (ah 1) aq)) aD)))):z.D 4 "Changes" (inClass (top 26) 5) (aX · (bu 2 2 _)))
abbrev yu:=fF Ln
def yH:=wG Ln
def Jx:=λ(z:Z) (E:En L z/\YR z/\yH z)=>(by let#[E,p,q]:=E;exists 1,(aK (aT (aO p.G hr.m p.m p.kp p.b (ai (cO aq) (ai (iT (M:=["number","changes"]) (js:=[none,some 0]) (fZ rfl (by kernel_rfl)) rfl (eX (ah 1)) (by decide) λs3 H3 fp=>#[(bG 0 (aaK rfl)),lH,(fS (d8 E) q.t q.G hr.m q.b (ah 1) (ai (ah 0) aq))]) aq))))):z.D 5 Str.empty (top 27) (aX · (bu 2 2 _)))
abbrev Q9:=fF Jx
def Ht:=wF Jx
def KH:=λ(z:Z) (E:En L z/\Ht z)=>(by let#[E,p]:=E;exists 1,(aK (aT (za rfl (E.b rfl) (aO p.G hr.m p.m p.kp p.b (ai (ah 0) (ai (uU (mP (E.b rfl) (ah 1)) (mP (E.b rfl) (ah 2))) aq)))))):z.D 6 Str.empty (top 34) (aX · (bu 3 3 _)))
abbrev aaE:=fF KH
def Qt:=wF KH
def Fd:=λ(z:Z) (E:En L z/\F_ z)=>(by let#[E,p]:=E;exists 1,(aK (aT (iG (fS (d8 E) p.t p.G hr.m p.b (ah 0) (ai (ah 1) aq)) aD))):z.D 4 "Changes" (inClass (top 26) 3) (aX · (bu 2 2 _)))
abbrev AZ:=fF Fd
def Z3:=wG Fd
def agz:SF:=(iB (JB 0 (aj 1) (ia (ao (e1 Dn (bN "Changes" "rank_of" AZ (aj 1) (ao (aj 0) aA))) (ao (aj 0) aA)))))
def Je:=λ(z:Z) (E:En L z/\Z3 z)=>(by let#[E,p]:=E;intro f fd F;let#[oc,od,kV,doc,pm,an,cd0,ct,qW,rfl,lk,_]:=id F.ex;apply DM (N:=["changes","numbers"]) F #[rfl,rfl,rfl,by decide +kernel,rfl,by decide +kernel,by decide +kernel] λaV A outer s H E' hr=>by apply(aK (aT (Uz (x:="number") (y:="changes") 0 (E.b rfl) (ah 1) #[rfl,rfl,rfl,by decide +kernel,rfl,rfl,by decide +kernel,λ_ _ _ _ _ _ _=>rfl] lk (congrArg (λc=>some (c,_,_)) aV.2.symm) (bx.depth (k:=0) (bx.in1 (bx.in1 hr.m))) (λf c' s H=>(cD (ai (abd (fS (d8 E) p.t p.G (bx.deeper (bx.in1 (bx.in1 hr.m)) _) p.b (ah 1) (ai (ah 0) aq))) (ai (ah 0) aq))))))):z.D 8 Str.empty (top 33) (aX · (bu 2 2 agz)))
abbrev Qk:=fF Je
def LX:=wF Je
def D4:=λ(z:Z) (E:En L z/\DE z/\yH z)=>(by let#[E,p,q]:=E;exists 1,(aK (aT (ahj (aO p.G hr.m p.m p.kp p.b (ai (ah 1) (ai (fS (d8 E) q.t q.G hr.m q.b (ah 0) (ai (ah 2) aq)) aq))) lR))):z.D 5 Str.empty (top 35) (aX · (bu 3 3 _)))
abbrev Le:=fF D4
def Ui:=wF D4
def Il:=λ(z:Z) (E:En L z/\LX z/\Ui z)=>(by let#[E,p,q]:=E;exists 1,(aL (iS rfl (eX (aO p.G hr.m p.m p.kp p.b (ai (ah 0) (ai (ah 2) aq)))) (bG 3 nd) (aK (cL (dh (aO q.G hr.m q.m q.kp q.b (ai (ah 0) (ai (ah 1) (ai (ah 3) aq))))) (aK (vY 3)) cJ))) (aK (aT lR))):z.D 9 Str.empty (top 32) (aX · (bu 3 4 _)))
abbrev AK:=fF Il
def acI:=wF Il
def Lo:=λ(z:Z) (E:En L z/\HA z)=>(by let#[E,p]:=E;exists 1,(aL (cj 4 (za rfl (E.b rfl) (iT (M:=["number"]) (js:=[none]) (fZ rfl (by kernel_rfl)) rfl (eX (uU (mP (E.b rfl) (ah 1)) (mP (E.b rfl) (ah 2)))) (by decide) λs3 H3 fp=>#[(bG 0 (aaK rfl)),lH,(cD (ai (ah 0) (ai eN aq)))])) nd) (aK (aT (iT (M:=["number","changes","here"]) (js:=[none,some 0,some 4]) (fZ rfl (by kernel_rfl)) rfl (eX (ah 3)) (by decide) λs3 H3 fp=>#[(bG 0 (aaK rfl)),(jT (dh (Ca rfl (E.b rfl) (iT (M:=["lean","here"]) (js:=[none,some 2]) (Zm (by decide +kernel)) rfl (eX (fS (d8 E) p.t p.G hr.m p.b (ah 1) (ai (ah 0) aq))) (by decide) λs3 H3 fp=>#[(bG 0 (aaK rfl)),lH,(VN (iy hr) (ah 0) (ah 1))])))),(ah 0)])))):z.D 5 Str.empty (top 29) (aX · (bu 4 5 _)))
abbrev AE:=fF Lo
def Fb:=wF Lo
def EC:=λ(z:Z) (E:En L z/\Qt z/\acI z/\Fb z/\yH z)=>(by let#[E,p,q,u,v]:=E;exists 1,(aL (cj 5 (mP (E.b rfl) (ah 2)) nd) (aL (cj 6 (mP (E.b rfl) (ah 3)) nd) (aL (cj 7 (aO p.G hr.m p.m p.kp p.b (ai (ah 0) (ai (ah 1) (ai (ah 2) aq)))) nd) (aL (IU 4000 (CM (jk (E.b rfl) (ah 5)) (ah 4)) (aL (cj 8 (aO q.G hr.m q.m q.kp q.b (ai (ah 0) (ai (ah 7) (ai (aO u.G hr.m u.m u.kp u.b (ai (ah 0) (ai (ah 1) (ai (ah 5) (ai (ah 6) aq))))) aq)))) nd) (aL (cL (Dp (ah 8) lR) (aK (vY 5)) cJ) (aL (Gn 5 (ah 8)) (aL (aa9 6 (ah 8)) (aK (iS rfl (eX (fS (d8 E) v.t v.G hr.m v.b (ah 0) (ai (ah 8) aq))) (vW rfl (jj (bG 9 nd) (jj (bG 10 nd) (jj (bG 11 nd) uV)))) (aK (Ql 7 (iy hr) (ah 9) (ah 11)))))))))) (aK (vY 5)))))):z.D 10 Str.empty (top 31) (aX · (bu 5 12 _)))
abbrev Ek:=fF EC
def acy:=wF EC
def Ij:=λ(z:Z) (E:En L z/\A6 z/\Jm z/\EH z)=>(by let#[E,p,q,u]:=E;exists 2,(bT (iF (D5 hr.units (eK (aF E) p.t p.G hr.m p.b (ah 0)) aD) (d9 (qD eN)) jS) (bT (b8 (cj 1 (fS (aF E) q.t q.G hr.m q.b (ah 0) (ai aD aq)) nd)) (bT (b8 (Dg 0 (iy hr) (aF E) (E.n rfl) (iG (bJ (aF E) (E.n rfl) (ah 0)) aD) (cD (ai bK (ai (wB (E.b rfl) (bJ (aF E) (E.n rfl) (ah 0))) (ai (ah 1) (ai (fS (aF E) u.t u.G hr.m u.b (ah 0) (ai (ah 1) aq)) aq))))))) (bT (b8 (f6 0 (aF E) (E.n rfl) (cO aq))) (d9 (qD eN)))))):z.D 4 "Gate" (inClass (top 51) 26) (dQ · (runM 1 2 _)))
abbrev TR:=fO Ij
def aeB:=wO Ij
def G4:=λ(z:Z) (E:En L z/\Ht z)=>(by let#[E,p]:=E;exists 1,(aK (aT (aO p.G hr.m p.m p.kp p.b (ai (bJ (aF E) (E.n rfl) (ah 0)) (ai (bJ (aF E) (E.n rfl) (ah 0)) aq))))):z.D 6 "Gate" (inClass (top 51) 13) (aX · (bu 1 1 _)))
abbrev ae1:=fF G4
def acq:=wG G4
def Kf:=λ(z:Z) (E:En L z/\DE z)=>(by let#[E,p]:=E;exists 1,(aK (aT (aO p.G hr.m p.m p.kp p.b (ai (za rfl (E.b rfl) (ah 0)) (ai (ah 1) aq))))):z.D 2 Str.empty (top 17) (aX · (bu 2 2 _)))
abbrev JG:=fF Kf
def Sj:=wF Kf
def Gv:=λ(z:Z) (E:En L z/\Fb z/\A5 z/\acq z/\Sj z/\yH z)=>(by let#[E,p,q,u,v,y]:=E;exists 2,(bT (iF (Jl (bJ (aF E) (E.n rfl) (ah 0))) (d9 (qD eN)) jS) (bT (b8 (cj 1 (aO p.G hr.m p.m p.kp p.b (ai (bJ (aF E) (E.n rfl) (ah 0)) (ai (bJ (aF E) (E.n rfl) (ah 0)) (ai (cO aq) (ai (eK (aF E) q.t q.G hr.m q.b (ah 0)) aq))))) nd)) (bT (b8 (cj 2 (eK (aF E) u.t u.G hr.m u.b (ah 0)) nd)) (bT (b8 (iS rfl (eX (ah 1)) (bG 3 nd) (aK (Dg 0 (iy hr) (aF E) (E.n rfl) (ah 3) (cD (ai bK (ai (aO v.G hr.m v.m v.kp v.b (ai (ah 2) (ai (fS (d8 E) y.t y.G hr.m y.b (bJ (aF E) (E.n rfl) (ah 0)) (ai (ah 3) aq)) aq))) aq))))))) (d9 (qD (abb hr.units (ah 1) (cO aq)))))))):z.D 7 "Gate" (inClass (top 51) 27) (dQ · (runM 1 4 _)))
abbrev DU:=fO Gv
def Yc:=wO Gv
def G5:=λ(z:Z) (E:En L z/\A6 z/\acy z/\A5 z/\aeB z/\Yc z)=>(by let#[E,p,q,u,v,y]:=E;exists 2,(bT (iF (Dp (eK (aF E) p.t p.G hr.m p.b (ah 0)) lR) (d9 (b8 (f6 0 (aF E) (E.n rfl) (aO q.G hr.m q.m q.kp q.b (ai (bJ (aF E) (E.n rfl) (ah 0)) (ai (bJ (aF E) (E.n rfl) (ah 0)) (ai (bJ (aF E) (E.n rfl) (ah 0)) (ai (eK (aF E) u.t u.G hr.m u.b (ah 0)) (ai (iG (bJ (aF E) (E.n rfl) (ah 0)) aD) aq))))))))) jS) (d9 (aeC (UO (jF 0 (aF E) v.t v.G hr.m v.b) (jF 0 (aF E) y.t y.G hr.m y.b))))):z.D 11 "Gate" (inClass (top 51) 25) (dQ · (runM 1 1 _)))
abbrev pW:=fO G5
def Ym:=wO G5
def JX:=λ(z:Z) (E:En L z/\EH z)=>(by let#[E,p]:=E;exists 1,(aK (aT (kC (abi hr.units (ah 1) (bJ (aF E) (E.n rfl) (ah 0))) (nC (acJ (fS (aF E) p.t p.G hr.m p.b (ah 0) (ai (ah 1) aq)) bK))))):z.D 3 "Gate" (inClass (top 51) 29) (aX · (bu 2 2 _)))
abbrev ac2:=fF JX
def UZ:=wG JX
def GV:SF:=(cz (dw 1 (e2 fC (aj 0) (eC (.int 0)))) (cz (dw 2 (aj 1)) (cz (jM (qG (aj 0) (e1 (l_ (some 1) none) (aj 0))) (gT (gj (gN 3) (gj (gN 4) n_))) (dN (tV (e2 qk (e2 lI (aj 4) (aj 3)) (e2 lI (aj 2) (aj 1)))) (cz (dw 1 (aj 3)) (dw 2 (aj 4))) eO)) (iB (e2 oDiv (e2 f9 (aj 1) (aj 2)) (eC (.int 2)))))))
def K3:=λ(z:Z) (E:En L z)=>(by exists 1,(aL (cj 1 (iG (ah 0) aD) nd) (aL (cj 2 (ah 1) nd) (aL (iS rfl (SO (E.b rfl) (ah 0) (JK AH Of (ah 0))) (vW rfl (jj (bG 3 nd) (jj (bG 4 nd) uV))) (aK (cL (ED (u_ (ah 4) (ah 3)) (u_ (ah 2) (ah 1))) (aL (cj 1 (ah 3) nd) (aK (cj 2 (ah 4) nd))) cJ))) (aK (aT (Wu (ez (ah 1) (ah 2)) aD)))))):z.D 1 Str.empty (top 41) (aX · (bu 1 5 GV)))
abbrev xx:=fF K3
def aho:=wF K3
def DA:SF:=(cz (dw 4 (pM (tV (e2 jv (aj 1) (eC .aC))) (e2 f9 (aj 0) (eC (.int 1))) (aj 1))) (cz (dw 5 (eW [none,some 4] (fG (aj 2)) (gN 0) (tV (e2 oLt (aj 0) (aj 1))) (aj 0))) (cz (gW (tV (e2 oLt (e1 fW (aj 5)) (e2 Bm (aj 3) (e2 lI (aj 4) (eC (.int 1)))))) (cz (dN (l9 (tV (e2 jv (aj 1) (eC .aC))) (tV (e2 (ju true) (aj 0) (aj 5)))) (mH 5 (aj 0)) (mH 5 (bC xx (ao (e2 gQ (e2 gQ (eZ (ao (eC (.int 0)) aA)) (aj 5)) (eZ (ao (aj 4) aA))) aA)))) (dw 5 (e1 m7 (aj 5)))) 4000) (uq 5))))
def F7:=λ(z:Z) (E:En L z/\aho z)=>(by let#[E,p]:=E;exists 1,(aL (cj 4 (SJ (Dp (ah 1) lR) (ez (ah 0) aD) (ah 1)) nd) (aL (qY 5 (hN:=nd) (M:=["place","end"]) (js:=[none,some 4]) (fZ rfl (by kernel_rfl)) rfl (eX (ah 2)) (by decide) λs3 H3 fp=>#[(bG 0 (aaK rfl)),(jT (CM (ah 0) (ah 1))),(ah 0)]) (aL (IU 4000 (CM (jk (E.b rfl) (ah 5)) (adW rfl (E.b rfl) (ah 3) (u_ (ah 4) aD))) (aL (cL (FW.ft (CO (Dp (ah 1) lR) (Kl (Sy (ah 0) (ah 5))))) (aK (Gn 5 (ah 0))) (aK (Gn 5 (aO p.G hr.m p.m p.kp p.b (ai (uU (uU (cO (ai aD aq)) (ah 5)) (cO (ai (ah 4) aq))) aq))))) (aK (cj 5 (IS rfl (E.b rfl) (ah 5)) nd)))) (aK (vY 5))))):z.D 2 Str.empty (top 40) (aX · (bu 4 6 DA)))
abbrev Ja:=fF F7
def ahB:=wF F7
def JP:=λ(z:Z) (E:En L z/\UZ z/\Jm z/\ahB z/\A6 z)=>(by let#[E,p,q,u,v]:=E;exists 1,(aL (cj 1 (jk (E.b rfl) (bJ (aF E) (E.n rfl) (ah 0))) nd) (aL (qY 2 (hN:=nd) (M:=["place","self"]) (js:=[none,some 0]) (fZ rfl (by kernel_rfl)) rfl (zF (E.b rfl) aD (ez (ah 1) aD)) (by decide) λs3 H3 fp=>#[(bG 0 (aaK rfl)),(jT (dh (fS (aF E) p.t p.G hr.m p.b (ah 1) (ai (fS (aF E) q.t q.G hr.m q.b (ah 1) (ai (ah 0) aq)) aq)))),(ah 0)]) (aK (aT (iT (M:=["place","self"]) (js:=[none,some 0]) (fZ rfl (by kernel_rfl)) rfl (eX (aO u.G hr.m u.m u.kp u.b (ai (ah 1) (ai (eK (aF E) v.t v.G hr.m v.b (ah 0)) (ai (ah 2) (ai (iG (bJ (aF E) (E.n rfl) (ah 0)) aD) aq)))))) (by decide) λs3 H3 fp=>#[(bG 0 (aaK rfl)),lH,(fS (aF E) q.t q.G hr.m q.b (ah 1) (ai (ah 0) aq))]))))):z.D 4 "Gate" (inClass (top 51) 28) (aX · (bu 1 3 _)))
abbrev Wc:=fF JP
def acP:=wG JP
def Ko:=λ(z:Z) (E:En L z/\afa z/\Ym z/\acP z)=>(by let#[E,p,q,u]:=E;exists 2,(bT (b8 (gJ (jF 0 (aF E) p.t p.G hr.m p.b))) (bT (b8 (WJ 4000 (Sk (fM (dh (bJ (aF E) (E.n rfl) (ah 0)))) (YD (jF 0 (aF E) q.t q.G hr.m q.b))) (aK (gJ (jF 0 (aF E) p.t p.G hr.m p.b))))) (d9 (b8 (f6 0 (aF E) (E.n rfl) (eK (aF E) u.t u.G hr.m u.b (ah 0))))))):z.D 12 "Gate" (inClass (top 51) 23) (dQ · (runM 1 1 _)))
abbrev oH:=fO Ko
def zZ:=wO Ko
def EA:=λ(z:Z) (E:En L z/\aes z/\zZ z)=>(by let#[E,p,q]:=E;exists 2,(bT (b8 (HF 4 (FY.fz (agr 0 (aF E) (E.n rfl) (d8 E) p.t p.G hr.m p.b (ai (ah 1) (ai (ah 2) (ai (ah 3) aq))))) nd)) (bT (b8 (gJ (jF 0 (aF E) q.t q.G hr.m q.b))) (d9 (qD (ah 4))))):z.D 13 "Gate" (inClass (top 51) 1) (dQ · (runM 4 5 _)))
abbrev jC:=fO EA
def zM:=wO EA
def vF(G:List D->Option D):SF:=(cz (dN (tV (e1 (J8 "tuple" "list") (aj 0))) (iB (e1 tG (eW [none] (fG (aj 0)) (gN 0) lU (bC G (ao (aj 0) aA))))) eO) (iB (vp (e1 (J8 "int" "str") (aj 0)) (e1 P7 (e1 (xT "bool") (aj 0))))))
def ads:List D->Option D:=bu 1 1 (vF λ_=>none)
def Xu:List D->Option D:=bu 1 1 (vF ads)
def abN:List D->Option D:=bu 1 1 (vF Xu)
def U0:List D->Option D:=bu 1 1 (vF abN)
abbrev QE:List D->Option D:=U0
def acK{z:Z}(E:En L z){f:Addr}{fd:FuncData}(acf:z.mg (gP (top 55))=some (.ref f))(VJ:PySem.W.keepIn z.K (.ref f)=true)(Vg:Binds z.K fd (jb (top 55)) [])(F:iR z.K (gP (top 55)) (gP (top 55)) (top 55) f fd):b_ z.P z.w z.K z.mg z.base dO 5 f fd (jb (top 55)) (aX z.K QE):=by
 have sc:mY ["_law_thing"] (jb (top 55)) (c8 (top 55)):=#[rfl,rfl,rfl,by decide +kernel,rfl,by decide +kernel,by decide +kernel]
 have st:∀(k:Nat) G,b_ z.P z.w z.K z.mg z.base dO (k+1) f fd (jb (top 55)) (aX z.K G)->b_ z.P z.w z.K z.mg z.base dO (k+1+1) f fd (jb (top 55)) (aX z.K (bu 1 1 (vF G))):=λk G agR=>DM F sc λaV A outer s H E' hr=>(aL (cL (dh (Nd WL (E.b rfl) (E.b rfl) (E.b rfl) (ah 0))) (aK (aT (Ca rfl (E.b rfl) (iT (M:=["_law_part"]) (js:=[none]) (fZ rfl (by kernel_rfl)) rfl (eX (ah 0)) (by decide) λs3 H3 fp=>#[(bG 0 (aaK rfl)),lH,(aO agR (hr.mono (by omega)) acf VJ Vg (ai (ah 0) aq))])))) cJ) (aK (aT (kC (Nd YO (E.b rfl) (E.b rfl) (E.b rfl) (ah 0)) (nC (Ly (Lh PU (E.b rfl) (E.b rfl) (ah 0))))))))
 apply(st 3 _ (st 2 _ (st 1 _ (st 0 _ (YU F sc)))))
def Sh(z:Z):Prop:=z.N 5 (top 55) (aX · QE)
def FH:=λ(z:Z) (E:En L z/\Sh z)=>(by let#[E,p]:=E;exists 1,(aK (aT (kC (Xg aac agk (E.b rfl) (E.b rfl) (ah 0)) (kC (aO p.G hr.m p.m p.kp p.b (ai (ah 0) aq)) (nC (T5 hr.units (ah 0) (ah 1))))))):z.D 6 Str.empty (top 56) (aX · (bu 2 2 _)))
abbrev nN:=fF FH
def yJ:=wF FH
def JS:=λ(z:Z) (E:En L z/\S7 z)=>(by let#[E,p]:=E;exists 1,(aL (cj 1 (Rw (d8 E).ns p.M p.G hr.m (E.m rfl) p.b) nd) (aL (aco 1 (d8 E) (E.n rfl) (bJ (d8 E) (E.n rfl) (ah 0))) (aK (vY 1)))):z.D 3 "Changes" (inClass (top 26) 8) (aX · (bu 1 2 _)))
abbrev agU:=fF JS
def ady:=wG JS
def HS:=λ(z:Z) (E:En L z/\ady z)=>(by let#[E,p]:=E;exists 1,(aK (aT (eK (d8 E) p.t p.G hr.m p.b (bJ (aF E) (E.n rfl) (ah 0))))):z.D 4 "Gate" (inClass (top 51) 17) (aX · (bu 1 1 _)))
abbrev Be:=fF HS
def FD:=wG HS
def HK:=λ(z:Z) (E:En L z)=>(by exists 1,(aK (aT (mP (E.b rfl) (bJ (aF E) (E.n rfl) (ah 0))))):z.D 1 "Gate" (inClass (top 51) 6) (aX · (bu 1 1 _)))
abbrev DO:=fF HK
def NG:=wG HK
def Ex:=λ(z:Z) (E:En L z)=>(by exists 1,(aK (aT (iT (M:=["number","self"]) (js:=[none,some 0]) (fZ rfl (by kernel_rfl)) rfl (eX (IS rfl (E.b rfl) (bJ (aF E) (E.n rfl) (ah 0)))) (by decide) λs3 H3 fp=>#[(bG 0 (aaK rfl)),lH,(cD (ai (ah 0) (ai (z_ (iy hr) (bJ (aF E) (E.n rfl) (ah 1)) (ah 0)) aq)))]))):z.D 1 "Gate" (inClass (top 51) 9) (aX · (bu 1 1 _)))
abbrev Xz:=fF Ex
def acW:=wG Ex
def JZ:=λ(z:Z) (E:En L z)=>(by exists 1,(aK (aT (mP (E.b rfl) (bJ (aF E) (E.n rfl) (ah 0))))):z.D 1 "Gate" (inClass (top 51) 7) (aX · (bu 1 1 _)))
abbrev F9:=fF JZ
def RV:=wG JZ
def K5:=λ(z:Z) (E:En L z)=>(by exists 1,(aK (aT (bJ (aF E) (E.n rfl) (ah 0)))):z.D 1 "Gate" (inClass (top 51) 12) (aX · (bu 1 1 _)))
abbrev Jp:=fF K5
def Z0:=wG K5
def K8:=λ(z:Z) (E:En L z/\Qt z/\Fb z/\Ui z)=>(by let#[E,p,q,u]:=E;exists 1,(aL (cj 4 (aO p.G hr.m p.m p.kp p.b (ai (ah 0) (ai (ah 1) (ai (ah 2) aq)))) nd) (aK (aT (iT (M:=["number","changes","values"]) (js:=[none,some 0,some 4]) (fZ rfl (by kernel_rfl)) rfl (eX (aO q.G hr.m q.m q.kp q.b (ai (ah 0) (ai (ah 1) (ai (ah 2) (ai (ah 3) aq)))))) (by decide) λs3 H3 fp=>#[(bG 0 (aaK rfl)),(jT (dh (aO u.G hr.m u.m u.kp u.b (ai (ah 1) (ai (ah 2) (ai (ah 0) aq)))))),(ah 0)])))):z.D 7 Str.empty (top 30) (aX · (bu 4 5 _)))
abbrev aaj:=fF K8
def agd:=wF K8
def KW:=λ(z:Z) (E:En L z/\Z0 z/\FD z/\NG z/\RV z/\HA z/\A6 z/\Sj z/\yH z/\Ht z/\LX z/\agd z/\A5 z)=>(by let#[E,p,q,u,v,y,g,h,j,l,m,a0,a1]:=E;exists 1,(aL (cL (dh (eK (aF E) p.t p.G hr.m p.b (ah 0))) (aK (aT (cD (ai bK aq)))) cJ) (aL (cj 2 (eK (aF E) q.t q.G hr.m q.b (ah 0)) nd) (aL (cj 3 (uU (eK (aF E) u.t u.G hr.m u.b (ah 0)) (eK (aF E) v.t v.G hr.m v.b (ah 0))) nd) (aL (qY 4 (hN:=nd) (M:=["lean","row"]) (js:=[none,some 3]) (fZ rfl (by kernel_rfl)) rfl (eX (fS (d8 E) y.t y.G hr.m y.b (ah 2) (ai (ah 1) aq))) (by decide) λs3 H3 fp=>#[(bG 0 (aaK rfl)),(jT (Sy (ah 0) (ah 1))),(ah 0)]) (aL (cL (Jl (ah 4)) (aK (abv (agS 4 bK))) cJ) (aL (cL (Em (eK (aF E) g.t g.G hr.m g.b (ah 0)) lR) (aK (aT (cD (ai bK (ai (eK (aF E) g.t g.G hr.m g.b (ah 0)) aq))))) cJ) (aL (cj 5 (aO h.G hr.m h.m h.kp h.b (ai (aO l.G hr.m l.m l.kp l.b (ai (ah 2) (ai (ah 3) aq))) (ai (fS (d8 E) j.t j.G hr.m j.b (ah 2) (ai (ah 1) aq)) aq))) nd) (aL (cL (Em (ah 5) lR) (aK (aT (cD (ai bK (ai (ah 5) aq))))) cJ) (aL (cj 6 (aO m.G hr.m m.m m.kp m.b (ai (ah 2) (ai (aO a0.G hr.m a0.m a0.kp a0.b (ai (ah 2) (ai (eK (aF E) u.t u.G hr.m u.b (ah 0)) (ai (eK (aF E) v.t v.G hr.m v.b (ah 0)) (ai (eK (aF E) a1.t a1.G hr.m a1.b (ah 0)) aq))))) aq))) nd) (aK (aT (cD (ai bK (ai (As (ah 6) (ah 1)) aq)))))))))))))):z.D 9 Str.empty (top 38) (aX · (bu 2 7 _)))
abbrev u9:=fF KW
def adB:=wF KW
def KG:=λ(z:Z) (E:En L z/\zE z/\FD z/\NG z/\acW z/\RV z/\adB z)=>(by let#[E,p,q,u,v,y,g]:=E;exists 1,(aL (cL (fM (dh (fS (d8 E) p.t p.G hr.m p.b (eK (aF E) q.t q.G hr.m q.b (ah 0)) (ai (ah 1) aq)))) (aK nW) cJ) (aL (cj 2 (eK (aF E) u.t u.G hr.m u.b (ah 0)) nd) (aL (cL (C7 (ah 1) (ah 2)) (aK (aT (cD (ai bK (ai (As (ah 2) (ah 1)) aq))))) cJ) (aL (cj 3 (za rfl (E.b rfl) (eK (aF E) v.t v.G hr.m v.b (ah 0))) nd) (aL (cL (Ku (iy hr) (ah 1) (ah 3)) (aK (aT (cD (ai bK (ai (z_ (iy hr) (ah 3) (ah 1)) aq))))) cJ) (aL (cj 4 (eK (aF E) y.t y.G hr.m y.b (ah 0)) nd) (aL (cL (C7 (ah 1) (ah 4)) (aK (aT (cD (ai bK (ai (As (ah 4) (ah 1)) aq))))) cJ) (aK (aT (aO g.G hr.m g.m g.kp g.b (ai (ah 0) (ai (ah 1) aq)))))))))))):z.D 10 Str.empty (top 37) (aX · (bu 2 5 _)))
abbrev fV:=fF KG
def w_why:=wF KG
def Gq:=λ(z:Z) (E:En L z/\zZ z)=>(by let#[E,p]:=E;exists 2,(bT (b8 (f6 0 (aF E) (E.n rfl) (cO aq))) (bT (b8 (f6 0 (aF E) (E.n rfl) eN)) (bT (b8 (Hg 0 (aF E) (E.n rfl) aD)) (d9 (b8 (gJ (jF 0 (aF E) p.t p.G hr.m p.b))))))):z.D 13 "Gate" (inClass (top 51) 4) (dQ · (runM 1 1 _)))
abbrev Cu:=fO Gq
def Kh:=wO Gq
def G3:=λ(z:Z) (E:En L z/\zE z/\FD z)=>(by let#[E,p,q]:=E;exists 5,(aL (cL (fM (dh (fS (d8 E) p.t p.G hr.m p.b (eK (aF E) q.t q.G hr.m q.b (ah 0)) (ai (ah 1) aq)))) (aK (acN rfl (E.x rfl) (E.g rfl) (E.e rfl) (ai (ahR (by decide) (ah 1)) aq))) cJ) (aL nW (aL nW (aL nW (aL nW (aL nW (aL nW (aK nW)))))))):z.DR 5 Str.empty (top 37) (sI · (rq 2 5 _)))
abbrev AL:=fR G3
def ahF:=wNR G3
def Jh:=λ(z:Z) (E:En L z/\ahF z)=>(by let#[E,p]:=E;exists 1,(aL (cj 2 (cO aq) nd) (aL (X8 3 (λaf R=>(aK (af5 (aau p.G hr.m p.m p.kp p.b (ai (ah 0) (ai (ah 1) aq)))))) (λa=>(aL (cj 4 (VT (E.ki (c:="_law_refused") rfl) (E.b rfl) (ah 3) (cV (Am rfl (E.e rfl)) (cV (Am rfl (E.e rfl)) (cV (Am rfl (E.e rfl)) fq))) (λ_ _ _ q=>q) (by show(3:Nat)<=1000;decide)) nd) (aK (cj 2 (cO (ai (aha (E.kt (c:="NoChange") rfl) (E.b rfl) (E.e rfl) (ah 3)) (ai (ab7 (E.kt (c:="ValueError") rfl) (E.b rfl) (E.b rfl) (ah 3)) (ai (ah 4) aq)))) nd)))) (E.ct rfl) (E.e rfl) nd) (aK (aT (T5 hr.units (ah 2) (cO (ai eN (ai eN (ai eN aq))))))))):z.D 6 Str.empty (top 57) (aX · (bu 2 5 _)))
abbrev Y6:=fF Jh
def YB:=wF Jh
def EY:=λ(z:Z) (E:En L z/\yq z/\zM z/\yJ z/\w_why z/\Kh z/\YB z)=>(by let#[E,p,q,u,v,y,g]:=E;exists 1,(aL (cj 4 (vQ (aF E).ns p.M p.G hr.m (E.m rfl) p.b (ai (ah 0) (ai (ah 1) (ai aD (ai (ah 2) aq))))) nd) (aL (iS rfl (oA (E.b rfl) (ah 0)) (bG 5 nd) (aK (gJ (FY.fz (jI 4 (aF E) q.t q.G hr.m q.b (ai (pA (ah 5) aD) (ai (cO aq) (ai (cO aq) aq)))))))) (aL (iS rfl (eX (ah 3)) (bG 6 nd) (aK (gJ (FY.fz (jI 4 (aF E) q.t q.G hr.m q.b (ai (ah 6) (ai (cO aq) (ai (cO aq) aq)))))))) (aL (iS rfl (oA (E.b rfl) (ah 0)) (bG 5 nd) (aK (cL (fM (dh (aO u.G hr.m u.m u.kp u.b (ai (aO v.G hr.m v.m v.kp v.b (ai (ah 4) (ai (ez (ah 5) aD) aq))) (ai (cD (ai bK (ai (ah 5) aq))) aq))))) (aK (aT eN)) cJ))) (aL (iS rfl (oA (E.b rfl) (jk (E.b rfl) (ah 3))) (bG 5 nd) (aL (cj 7 (jk (E.b rfl) (iT (M:=["_law_rank","_law_ranks","_law_k"]) (js:=[none,some 3,some 5]) (fZ rfl (by kernel_rfl)) rfl (eX (ah 3)) (by decide) λs3 H3 fp=>#[(bG 0 (aaK rfl)),(jT (ED (ah 0) (iG (ah 1) (ah 2)))),(ah 0)])) nd) (aL (cj 7 (ez (ah 7) (jk (E.b rfl) (iT (M:=["_law_rank","_law_ranks","_law_k"]) (js:=[none,some 3,some 5]) (fZ rfl (by kernel_rfl)) rfl (eX (E1 (ah 3) (ah 5))) (by decide) λs3 H3 fp=>#[(bG 0 (aaK rfl)),(jT (wg (ah 0) (iG (ah 1) (ah 2)))),(ah 0)]))) nd) (aK (cL (fM (dh (aO u.G hr.m u.m u.kp u.b (ai (aO v.G hr.m v.m v.kp v.b (ai (ah 4) (ai (ez (ez (ah 0) (ah 5)) aD) aq))) (ai (cD (ai bK (ai (ah 7) aq))) aq))))) (aK (aT eN)) cJ))))) (aL (gJ (jF 4 (aF E) y.t y.G hr.m y.b)) (aL (iS rfl (oA (E.b rfl) (ez (ah 0) (jk (E.b rfl) (ah 3)))) (bG 5 nd) (aK (cL (fM (dh (aO u.G hr.m u.m u.kp u.b (ai (aO v.G hr.m v.m v.kp v.b (ai (ah 4) (ai (ez (ah 5) aD) aq))) (ai (cD (ai bK aq)) aq))))) (aK (aT eN)) cJ))) (aK (aT (kC (aO g.G hr.m g.m g.kp g.b (ai (ah 4) (ai aD aq))) (nC (aO g.G hr.m g.m g.kp g.b (ai (ah 4) (ai (ez (ez (ah 0) (jk (E.b rfl) (ah 3))) aD) aq)))))))))))))):z.D 14 Str.empty (top 58) (aX · (bu 4 8 _)))
abbrev abB:=fF EY
def Vm:=wF EY
def DX:=λ(z:Z) (E:En L z/\yq z/\zM z/\Qn z/\yJ z/\w_why z)=>(by let#[E,p,q,u,v,y]:=E;exists 1,(aL (cj 3 (vQ (aF E).ns p.M p.G hr.m (E.m rfl) p.b (ai aD (ai (ah 1) (ai aD (ai (ah 0) aq))))) nd) (aL (iS rfl (oA (E.b rfl) aD) (bG 4 nd) (aK (gJ (FY.fz (jI 3 (aF E) q.t q.G hr.m q.b (ai aD (ai (cO aq) (ai (cO aq) aq)))))))) (aL (qY 5 (hN:=nd) (M:=["_law_one","_law_cell"]) (js:=[none,some 2]) (fZ rfl (by kernel_rfl)) rfl (zF (E.b rfl) aD aD) (by decide) λs3 H3 fp=>#[(bG 0 (aaK rfl)),(jT (wg (aO u.G hr.m u.m u.kp u.b (ai (ez (ah 1) (IM (ah 0) (ah 0))) (ai aD (ai aD aq)))) aD)),(ah 0)]) (aL (HF 6 (FY.fz (jI 3 (aF E) q.t q.G hr.m q.b (ai aD (ai (ah 5) (ai (cO aq) aq))))) nd) (aL (cj 7 (cD (ai bK (ai (MU (iT (M:=["_law_one"]) (js:=[none]) (fZ rfl (by kernel_rfl)) rfl (eX (ah 5)) (by decide) λs3 H3 fp=>#[(bG 0 (aaK rfl)),(jT (ED (ah 0) aD)),(ah 0)])) aq))) nd) (aL (cL (NH hr.units (iG (ah 7) aD) (cO aq)) (aK (cj 7 (cD (ai bK (ai aD aq))) nd)) cJ) (aK (aT (aO v.G hr.m v.m v.kp v.b (ai (aO y.G hr.m y.m y.kp y.b (ai (ah 3) (ai (ah 6) aq))) (ai (ah 7) aq))))))))))):z.D 14 Str.empty (top 59) (aX · (bu 3 8 _)))
abbrev ad7:=fF DX
def afW:=wF DX
def Ji:=λ(z:Z) (E:En L z/\zZ z)=>(by let#[E,p]:=E;exists 2,(bT (b8 (f6 0 (aF E) (E.n rfl) eN)) (d9 (b8 (gJ (jF 0 (aF E) p.t p.G hr.m p.b))))):z.D 13 "Gate" (inClass (top 51) 5) (dQ · (runM 1 1 _)))
abbrev Gs:=fO Ji
def My:=wO Ji
def HW:=λ(z:Z) (E:En L z/\MB z)=>(by let#[E,p]:=E;exists 2,(bT (iF (Wx (ah 1) (Nx (E.t rfl))) (d9 qd) jS) (bT (iF (xq (eK (jE E) p.t p.G hr.m p.b (ah 0)) bK) (d9 qd) jS) (bT (b8 (Cm 0 (jE E) (E.n rfl) (ah 1))) (d9 (qD (eK (jE E) p.t p.G hr.m p.b (ah 0))))))):z.D 2 "Tally" (inClass (top 45) 1) (dQ · (runM 2 2 _)))
abbrev QC:=fO HW
def agN:=wO HW
def IE:=λ(z:Z) (E:En L z/\SY z)=>(by let#[E,p]:=E;exists 2,(bT (iF (fM (dh (aO p.G hr.m p.m p.kp p.b (ai (ah 1) (ai (ah 2) aq))))) (d9 qd) jS) (bT (b8 (f6 0 (jE E) (E.n rfl) (ah 1))) (bT (b8 (f6 0 (jE E) (E.n rfl) (ah 2))) (d9 (b8 (f6 0 (jE E) (E.n rfl) (cO aq))))))):z.D 3 "Tally" (inClass (top 45) 0) (dQ · (runM 3 3 _)))
abbrev Bo:=fO IE
def UL:=wI IE
def Kw:=λ(z:Z) (E:En L z)=>(by exists 2,(bT (b8 (f6 0 (aF E) (E.n rfl) (aas (bJ (aF E) (E.n rfl) (ah 0)) (u_ (jk (E.b rfl) (ah 1)) (jk (E.b rfl) (bJ (aF E) (E.n rfl) (ah 0))))))) (bT (b8 (f6 0 (aF E) (E.n rfl) (mP (E.b rfl) (ah 1)))) (d9 (b8 (Cm 0 (aF E) (E.n rfl) (ah 1)))))):z.D 1 "Gate" (inClass (top 51) 22) (dQ · (runM 2 2 _)))
abbrev rP:=fO Kw
def aar:=wO Kw
def F4:=λ(z:Z) (E:En L z/\agN z/\UL z/\aar z/\zZ z)=>(by let#[E,p,q,u,v]:=E;exists 2,(bT (iF (adH hr.units (ah 1) (bJ (aF E) (E.n rfl) (ah 0))) (d9 qd) jS) (UU (iy hr) (E.ni rfl) (aF E) (E.n rfl) (jE E) p.t p.G hr.m p.b (vQ (jE E).ns q.M q.G hr.m (E.m rfl) q.b (ai (iG (bJ (aF E) (E.n rfl) (ah 0)) aD) (ai (iG (bJ (aF E) (E.n rfl) (ah 0)) aD) aq))) (bT (b8 (Hg 0 (aF E) (E.n rfl) aD)) (bT (iF (xq (ah 4) bK) (d9 (b8 (Cm 0 (aF E) (E.n rfl) (cD (ai (ah 1) (ai (ah 4) aq)))))) jS) (bT (iF (wg (ah 4) bK) (d9 (b8 (gJ (FY.fz (jI 0 (aF E) u.t u.G hr.m u.b (ai (ah 1) aq)))))) jS) (bT (b8 (gJ (jF 0 (aF E) v.t v.G hr.m v.b))) (d9 (qD (ah 4))))))) nd)):z.D 13 "Gate" (inClass (top 51) 3) (dQ · (runM 3 5 _)))
abbrev oX:=fO F4
def GA:=wO F4
def IL:=λ(z:Z) (E:En L z/\yq z/\zM z/\Kh z/\My z/\GA z/\yJ z/\w_why z)=>(by let#[E,p,q,u,v,y,g,h]:=E;exists 1,(aL (cj 4 (vQ (aF E).ns p.M p.G hr.m (E.m rfl) p.b (ai (ah 0) (ai (ah 1) (ai aD (ai (ah 2) aq))))) nd) (aL (iS rfl (oA (E.b rfl) (ez (ah 0) aD)) (bG 5 nd) (aK (gJ (FY.fz (jI 4 (aF E) q.t q.G hr.m q.b (ai aD (ai (cO aq) (ai (cO aq) aq)))))))) (aL (gJ (jF 4 (aF E) u.t u.G hr.m u.b)) (aL (gJ (jF 4 (aF E) v.t v.G hr.m v.b)) (aL (cj 6 (Zf rfl (E.b rfl) (E.b rfl) (ai aD (ai (ez (ah 0) aD) aq))) nd) (aL (cj 7 bK nd) (aL (IU 4000 (NH hr.units (ah 7) bK) (aK (HF 7 (FY.fz (jI 4 (aF E) y.t y.G hr.m y.b (ai (ah 6) (ai (ah 3) aq)))) nd))) (aL (cL (D5 hr.units (ah 7) (ah 3)) (aK (aT eN)) cJ) (aL (cL (wg (ah 0) aD) (aK (aT (kC (aO g.G hr.m g.m g.kp g.b (ai (aO h.G hr.m h.m h.kp h.b (ai (ah 4) (ai aD aq))) (ai (cD (ai bK (ai (cD (ai bK (ai (cD aq) (ai (cD (ai aD aq)) (ai (ah 3) aq))))) aq))) aq))) (nC (aO g.G hr.m g.m g.kp g.b (ai (aO h.G hr.m h.m h.kp h.b (ai (ah 4) (ai aD aq))) (ai (cD (ai bK (ai aD aq))) aq))))))) cJ) (aK (aT (kC (aO g.G hr.m g.m g.kp g.b (ai (aO h.G hr.m h.m h.kp h.b (ai (ah 4) (ai (ez (ah 0) aD) aq))) (ai (cD (ai bK (ai (ah 0) aq))) aq))) (nC (aO g.G hr.m g.m g.kp g.b (ai (aO h.G hr.m h.m h.kp h.b (ai (ah 4) (ai aD aq))) (ai (cD (ai bK (ai aD aq))) aq)))))))))))))))):z.D 14 Str.empty (top 60) (aX · (bu 4 8 _)))
abbrev adC:=fF IL
def Xj:=wF IL
def DT:=λ(z:Z) (E:En L z/\yq z/\zM z/\yJ z/\w_why z/\GA z)=>(by let#[E,p,q,u,v,y]:=E;exists 1,(aL (cj 5 (vQ (aF E).ns p.M p.G hr.m (E.m rfl) p.b (ai (ez (ah 0) aD) (ai (ah 1) (ai aD (ai (ah 2) aq))))) nd) (aL (gJ (FY.fz (jI 5 (aF E) q.t q.G hr.m q.b (ai aD (ai (cO aq) (ai (cO (ai (cD (ai (ah 3) (ai aD (ai (ah 4) aq)))) aq)) aq)))))) (aL (gJ (FY.fz (jI 5 (aF E) q.t q.G hr.m q.b (ai aD (ai (cO aq) (ai (cO (ai (cD (ai (ah 3) (ai (ez (ah 4) aD) (ai aD aq)))) aq)) aq)))))) (aL (gJ (FY.fz (jI 5 (aF E) q.t q.G hr.m q.b (ai aD (ai (cO (ai aD aq)) (ai (cO aq) aq)))))) (aL (cL (FW.ft (xw (fM (dh (aO u.G hr.m u.m u.kp u.b (ai (aO v.G hr.m v.m v.kp v.b (ai (ah 5) (ai aD aq))) (ai (cD (ai bK (ai (ah 3) aq))) aq))))) (x9 (fM (dh (aO u.G hr.m u.m u.kp u.b (ai (aO v.G hr.m v.m v.kp v.b (ai (ah 5) (ai aD aq))) (ai (cD (ai bK (ai (MU (cO (ai aD aq))) aq))) aq)))))))) (aK (aT eN)) cJ) (aL (Pw (QO (FY.fz (jI 5 (aF E) y.t y.G hr.m y.b (ai (cD (ai aD aq)) (ai bK aq)))) bK) (aK (aT eN)) cJ) (aL (cL (FW.ft (xw (fM (dh (aO u.G hr.m u.m u.kp u.b (ai (aO v.G hr.m v.m v.kp v.b (ai (ah 5) (ai aD aq))) (ai (cD (ai bK (ai aD aq))) aq))))) (x9 (fM (dh (aO u.G hr.m u.m u.kp u.b (ai (aO v.G hr.m v.m v.kp v.b (ai (ah 5) (ai aD aq))) (ai (cD (ai bK (ai (cD (ai bK (ai (ah 3) aq))) aq))) aq)))))))) (aK (aT eN)) cJ) (aK (aT (aO u.G hr.m u.m u.kp u.b (ai (aO v.G hr.m v.m v.kp v.b (ai (ah 5) (ai aD aq))) (ai (cD (ai bK (ai (cD (ai bK (ai aD aq))) aq))) aq)))))))))))):z.D 14 Str.empty (top 61) (aX · (bu 5 6 _)))
abbrev Z9:=fF DT
def age:=wF DT
def Fw:=λ(z:Z) (E:En L z/\zE z/\zZ z)=>(by let#[E,p,q]:=E;exists 2,(bT (iF (fM (dh (fS (d8 E) p.t p.G hr.m p.b (bJ (aF E) (E.n rfl) (ah 0)) (ai (ah 1) aq)))) (d9 qd) jS) (bT (iF (FW.ft (xw (C7 (ah 1) (bJ (aF E) (E.n rfl) (ah 0))) (x9 (Ku (iy hr) (ah 1) (bJ (aF E) (E.n rfl) (ah 0)))))) (d9 qd) jS) (bT (iF (C7 (ah 1) (bJ (aF E) (E.n rfl) (ah 0))) (d9 (b8 (f6 0 (aF E) (E.n rfl) (E1 (bJ (aF E) (E.n rfl) (ah 0)) (As (bJ (aF E) (E.n rfl) (ah 0)) (ah 1)))))) jS) (bT (b8 (Dg 0 (iy hr) (aF E) (E.n rfl) (ah 1) (cD (ai bK aq)))) (bT (b8 (Hg 0 (aF E) (E.n rfl) aD)) (d9 (b8 (gJ (jF 0 (aF E) q.t q.G hr.m q.b))))))))):z.D 13 "Gate" (inClass (top 51) 2) (dQ · (runM 2 2 _)))
abbrev Qv:=fO Fw
def agl:=wO Fw
def G9:=λ(z:Z) (E:En L z/\yq z/\zM z/\agl z/\yJ z/\w_why z/\Kh z/\My z/\GA z)=>(by let#[E,p,q,u,v,y,g,h,j]:=E;exists 1,(aL (cj 4 (vQ (aF E).ns p.M p.G hr.m (E.m rfl) p.b (ai (ah 2) (ai (ah 0) (ai aD (ai (ah 1) aq))))) nd) (aL (iS rfl (oA (E.b rfl) (ah 2)) (bG 5 nd) (aK (gJ (FY.fz (jI 4 (aF E) q.t q.G hr.m q.b (ai aD (ai (cO aq) (ai (cO aq) aq)))))))) (aL (gJ (FY.fz (jI 4 (aF E) q.t q.G hr.m q.b (ai aD (ai (cO (ai (ah 3) aq)) (ai (cO aq) aq)))))) (aL (gJ (FY.fz (jI 4 (aF E) u.t u.G hr.m u.b (ai (ah 3) aq)))) (aL (cL (fM (dh (aO v.G hr.m v.m v.kp v.b (ai (aO y.G hr.m y.m y.kp y.b (ai (ah 4) (ai (ah 3) aq))) (ai (cD (ai bK (ai (cD (ai bK aq)) aq))) aq))))) (aK (aT eN)) cJ) (aL (cL (fM (dh (aO v.G hr.m v.m v.kp v.b (ai (aO y.G hr.m y.m y.kp y.b (ai (ah 4) (ai (ez (ah 2) aD) aq))) (ai (cD (ai bK (ai (cD (ai bK (ai (ah 3) aq))) aq))) aq))))) (aK (aT eN)) cJ) (aL (gJ (jF 4 (aF E) g.t g.G hr.m g.b)) (aL (gJ (jF 4 (aF E) h.t h.G hr.m h.b)) (aL (qY 6 (hN:=nd) (M:=["_law_number","_law_at"]) (js:=[none,some 3]) (fZ rfl (by kernel_rfl)) rfl (zF (E.b rfl) aD (ez (ah 2) aD)) (by decide) λs3 H3 fp=>#[(bG 0 (aaK rfl)),(jT (xq (ah 0) (ah 1))),(ah 0)]) (aL (Pw (Sk (D5 hr.units (ah 6) (cO aq)) (QO (FY.fz (jI 4 (aF E) j.t j.G hr.m j.b (ai (wB (E.b rfl) (ah 6)) (ai bK aq)))) bK)) (aK (aT eN)) cJ) (aL (iS rfl (oA (E.b rfl) (jk (E.b rfl) (ah 6))) (bG 5 nd) (aK (cL (fM (dh (aO v.G hr.m v.m v.kp v.b (ai (aO y.G hr.m y.m y.kp y.b (ai (ah 4) (ai (iG (ah 6) (ah 5)) aq))) (ai (cD (ai bK (ai (ah 5) aq))) aq))))) (aK (aT eN)) cJ))) (aK (aT eN))))))))))))):z.D 14 Str.empty (top 62) (aX · (bu 4 7 _)))
abbrev XU:=fF G9
def UQ:=wF G9
def o_law:=λ(z:Z) (E:En L z/\afD z/\Qn z/\Vm z/\afW z/\Xj z/\age z/\UQ z)=>(by let#[E,p,q,u,v,y,g,h]:=E;exists 1,(aL (cj 1 (aO p.G hr.m p.m p.kp p.b (ai (ah 0) (ai aD aq))) nd) (aL (cj 2 (aO p.G hr.m p.m p.kp p.b (ai (ah 0) (ai aD aq))) nd) (aL (cj 3 (ez aD (aO q.G hr.m q.m q.kp q.b (ai (ah 1) (ai aD (ai (iG (cO (ai aD (ai aD (ai aD aq)))) (aO q.G hr.m q.m q.kp q.b (ai (ah 1) (ai aD (ai aD aq))))) aq))))) nd) (aL (cj 4 (ez aD (aO q.G hr.m q.m q.kp q.b (ai (ah 2) (ai aD (ai aD aq))))) nd) (aL (qY 6 (hN:=nd) (M:=["_law_cell"]) (js:=[none]) (fZ rfl (by kernel_rfl)) rfl (eX (JK AH AH (ah 0))) (by decide) λs3 H3 fp=>#[(bG 0 (aaK rfl)),lH,(pA (ah 0) aD)]) (aL (cL (wg (aO q.G hr.m q.m q.kp q.b (ai (ah 2) (ai aD (ai aD aq)))) aD) (aK (qY 6 (hN:=nd) (M:=["_law_k","_law_other"]) (js:=[none,some 2]) (fZ rfl (by kernel_rfl)) rfl (oA (E.b rfl) (aO q.G hr.m q.m q.kp q.b (ai (ah 2) (ai aD (ai aD aq))))) (by decide) λs3 H3 fp=>#[(bG 0 (aaK rfl)),lH,(aO q.G hr.m q.m q.kp q.b (ai (ez (ah 1) (IM (ah 0) (ah 0))) (ai aD (ai aD aq))))])) cJ) (aL (cL (fM (dh (aO u.G hr.m u.m u.kp u.b (ai (ah 3) (ai (ez aD (aO q.G hr.m q.m q.kp q.b (ai (ah 1) (ai aD (ai aD aq))))) (ai (ah 4) (ai (ah 6) aq))))))) (aK (aT eN)) cJ) (aL (cL (fM (dh (aO v.G hr.m v.m v.kp v.b (ai (ah 4) (ai (ez aD (aO q.G hr.m q.m q.kp q.b (ai (ah 1) (ai aD (ai aD aq))))) (ai (ah 2) aq)))))) (aK (aT eN)) cJ) (aL (cL (fM (dh (aO y.G hr.m y.m y.kp y.b (ai (ah 3) (ai (ez aD (aO q.G hr.m q.m q.kp q.b (ai (ah 2) (ai aD (ai aD aq))))) (ai (ah 4) (ai (iG (cO (ai bK (ai bK aq))) (aO q.G hr.m q.m q.kp q.b (ai (ah 2) (ai aD (ai aD aq))))) aq))))))) (aK (aT eN)) cJ) (aL (cj 5 (aO p.G hr.m p.m p.kp p.b (ai (ah 0) (ai aD aq))) nd) (aL (cL (fM (dh (aO g.G hr.m g.m g.kp g.b (ai (pA (ah 3) aD) (ai (ez aD (pA (ah 5) aD)) (ai (ah 4) (ai (pA (ah 5) aD) (ai (ez aD (pA (ah 5) (u_ (YV aD aD) aD))) aq)))))))) (aK (aT eN)) cJ) (aL (cj 7 (ez aD (aO q.G hr.m q.m q.kp q.b (ai (ah 5) (ai aD (ai aD aq))))) nd) (aK (aT (aO h.G hr.m h.m h.kp h.b (ai aD (ai (ah 4) (ai (ah 7) (ai (ez aD (aO q.G hr.m q.m q.kp q.b (ai (ah 5) (ai aD (ai (ah 7) aq))))) aq))))))))))))))))))):z.D 15 Str.empty (top 63) (aX · (bu 1 8 _)))
abbrev Aq:=fF o_law
end K65
namespace K65
open PySem L2 L2.Ev
def cu(h:f Y=some (d,.own)):iB f Y=some (.rt d):=by rw[Hi,h];rfl
def Ct:nG [.int v,.int a,.int b]=some (.bl (decide (a<=v)&&decide (v<=b))):=by
 refine bq rfl (cu ?_);show(match some (D.bl (decide (a<=v))) with|some (.bl true)=>some (D.bl (decide (v<=b)),Tag.own)|some (.bl false)=>some (.bl false,.own)|_=>none)=_;cases decide (a<=v)<;>rfl
def iL(l:List Int):D:=.lst (l.map D.int)
abbrev Ed:=Int×Int×Int
def dT(p:Ed):D:=.tup [.int p.1,.int p.2.1,.int p.2.2]
def eL(E:List Ed):D:=.lst (E.map dT)
theorem xG:∀E:List Ed,aP (E.map dT)=true
 |[]=>rfl
 |p::r=>by rw[aaB];unfold aP;rw[xG r];rfl
theorem Uh:∀bs:List Bool,nQ (bs.map D.bl)=some bs
 |[]=>rfl
 |b::r=>by rw[aaB];unfold nQ;rw[Uh r];rfl
def H_{bs:List Bool}:tG (.lst (bs.map D.bl))=some (.bl (bs.all id)):=by
 show(nQ (bs.map D.bl)).map (λbs=>D.bl (bs.all id))=_;rw[Uh];rfl
theorem nj{α β:Type}(f:α->β):∀l:List α,l.filterMap (λx=>some (f x))=l.map f
 |[]=>rfl
 |a::l=>by rw[afi,aaB];show _::_=_;rw[nj f l]
abbrev g2:GF:=gT (gj (gN 0) (gj (gN 1) n_))
def size_le{n:Nat}(h:n<=10000):n<sizeLine:=by unfold sizeLine;lia
def Pq{k:Nat}(hk:k<=ds.length):cutD ds (some (k:Int)) none=ds.drop k:=by
 unfold cutD;rw[HT.yz,HT.JU,Nat.min_eq_left hk,aiC (by rw[List.length_drop];apply abD _)]
def D_{k:Nat}(hk:k<=ds.length):cutD ds none (some (k:Int))=ds.take k:=by
 unfold cutD;rw[HT.yz,HT.JU,Nat.min_eq_left hk];rfl
def Vs{ds:List D}:cutD ds (some 1) none=ds.drop 1:=by
 cases ds with
 |nil=>rfl
 |cons a r=>apply Pq (by simp)
def qO:List Int->Bool
 |x::y::r=>decide (x<y)&&qO (y::r)
 |_=>true
theorem T6:∀l:List Int,((l.zip (l.drop 1)).map λp=>decide (p.1<p.2)).all id=qO l
 |[]=>rfl
 |[_]=>rfl
 |x::y::r=>by
  have ih:=T6 (y::r);show(decide (x<y)&&(((y::r).zip ((y::r).drop 1)).map λp=>decide (p.1<p.2)).all id)=_;rw[ih];rfl
theorem Na:∀{l},l.Pairwise (· < ·)->qO l=true
 |[],_=>rfl
 |[_],_=>rfl
 |x::y::r,h=>by
  let#[h1,h2]:=aew.mp h;show(decide (x<y)&&qO (y::r))=true;rw[Na h2,aaC (h1 y aah)];rfl
def QU{l:List Int}(hl:l.length<=100):aam [iL l]=some (.bl (qO l)):=by
 have q1:e1 (l_ (some 1) none) (aj 0) [some (iL l,.sh [])]=some (iL (l.drop 1),.own):=cN rfl (by
  show(if aP (l.map D.int)=true then some (D.lst (cutD (l.map D.int) (some 1) none)) else none)=_;rw[if_pos (fm l),Vs,<- List.map_drop];rfl)
 have hz:qG (aj 0) (e1 (l_ (some 1) none) (aj 0)) [some (iL l,.sh [])]=some (((l.zip (l.drop 1)).map λp=>D.tup [.int p.1,.int p.2]),j4 [(iL l,.sh []),(iL (l.drop 1),.own)]):=by
  unfold qG;rw[q1];show(if(aP (l.map D.int)&&aP ((l.drop 1).map D.int))=true then some (((l.map D.int).zip ((l.drop 1).map D.int)).map λp=>D.tup [p.1,p.2],j4 [(iL l,.sh []),(iL (l.drop 1),.own)]) else none)=_;rw[if_pos (by rw[fm,fm];rfl),List.zip_map,adK];rfl
 refine bq rfl (cu (cN (kH (k:=λd=>match d with | .tup [.int a,.int b]=>some (.bl (decide (a < b))) | _=>none) hz (by rw[List.length_map,List.length_zip];apply size_le (by lia)) (λd m=>by
  let#[#[a,b],mi,rfl]:=acg.mp m;apply nL rfl rfl (aQ rfl rfl ZD))) ?_))
 rw[agX,<- T6,<- H_,adK];apply congrArg (λz=>tG (.lst z)) (nj (λp:Int×Int=>D.bl (decide (p.1<p.2))) _)
def Ck(hi:it Y=some (ds,.sh []))(h:dD g (.sh []) f ds Y=some (.nx Y')):jM it g f Y=some (.nx Y'):=AQ hi h
def VC(hi:it Y=some (ds,.sh []))(h:dD g (.sh []) f ds Y=some (.rt r)):jM it g f Y=some (.rt r):=Pe hi h
def inR(v a b:Int):Bool:=decide (a<=v)&&decide (v<=b)
def tM(p:Ed):Bool:=inR p.1 0 999&&inR p.2.1 0 1000000000&&inR p.2.2 0 1000000000&&!(p.2.1==p.2.2)
def xm(E:List Ed):Bool:=E.all tM&&qO (E.map (·.1))
abbrev gE:GF:=gT (gj (gN 1) (gj (gN 2) (gj (gN 3) n_)))
def bE:SF:=(cz (dN (iW (l9 (tV (bC nG (ao (aj 1) (ao (eC (.int 0)) (ao (eC (.int 999)) aA))))) (tV (bC nG (ao (aj 2) (ao (eC (.int 0)) (ao (eC (.int 1000000000)) aA))))))) (iB (eC (.bl false))) eO) (dN (nY (iW (tV (bC nG (ao (aj 3) (ao (eC (.int 0)) (ao (eC (.int 1000000000)) aA)))))) (tV (e2 oEq (aj 2) (aj 3)))) (iB (eC (.bl false))) eO))
def yy(h:aj i Y=some (.int v,t)):tV (bC nG (ao (aj i) (ao (eC (.int a)) (ao (eC (.int b)) aA)))) Y=some (inR v a b):=
 bA (bP (ps:=[(.int v,t),(.int a,.own),(.int b,.own)]) (by rw[aM,h];rfl) Ct)
def rE(L:D)(a b c:Int):aU:=[some (L,.sh []),some (.int a,.own),some (.int b,.own),some (.int c,.own)]
def Xw{L:D}{a b c:Int}:bE (rE L a b c)=some (if tM (a,b,c)=true then .nx (rE L a b c) else .rt (.bl false)):=by
 have w1:tV (bC nG (ao (aj 1) (ao (eC (.int 0)) (ao (eC (.int 999)) aA)))) (rE L a b c)=some (inR a 0 999):=yy rfl;have w2:tV (bC nG (ao (aj 2) (ao (eC (.int 0)) (ao (eC (.int 1000000000)) aA)))) (rE L a b c)=some (inR b 0 1000000000):=yy rfl;have w3:tV (bC nG (ao (aj 3) (ao (eC (.int 0)) (ao (eC (.int 1000000000)) aA)))) (rE L a b c)=some (inR c 0 1000000000):=yy rfl;have w4:tV (e2 oEq (aj 2) (aj 3)) (rE L a b c)=some (b==c):=rfl;have c1:=Mf w1 w2;have c2:=R3 (show iW (tV (bC nG (ao (aj 3) (ao (eC (.int 0)) (ao (eC (.int 1000000000)) aA))))) (rE L a b c)=some (!inR c 0 1000000000) by rw[Ef,w3];rfl) w4;unfold bE tM;rw[jy,iO,Ef,c1];cases inR a 0 999<;>cases inR b 0 1000000000<;>try rfl
 show xZ _ (eO _)=_;rw[Vw,oJ,iO,c2];cases inR c 0 1000000000<;>cases(b==c)<;>rfl
theorem Mb{L:D}:∀{E:List Ed} {s1 s2 s3},∃qP KQ xh,dD gE (.sh []) bE (E.map dT) [some (L,.sh []),s1,s2,s3]=some (if E.all tM=true then .nx [some (L,.sh []),qP,KQ,xh] else .rt (.bl false))
 |[],s1,s2,s3=>#[s1,s2,s3,rfl]
 |(a,b,c)::E,s1,s2,s3=>by
  let#[t1,t2,t3,ih]:=Mb;refine#[t1,t2,t3,?_];rw[aaB];show(match bE (rE L a b c) with|some (.nx bI)=>dD gE (.sh []) bE (E.map dT) bI|some (.ct bI)=>dD gE (.sh []) bE (E.map dT) bI|some (.bk bI)=>some (.nx bI)|some (.rt r)=>some (.rt r)|some (.er raw cn bI)=>some (.er raw cn bI)|none=>none)=_;rw[Xw,aiP];cases tM (a,b,c) with
  |true=>rw[if_pos rfl,Bool.true_and];apply ih
  |false=>rfl
def jX(h:sf Y=some (.rt d)):cz sf sg Y=some (.rt d):=by rw[jy,h];rfl
def MS{js:List (Option Nat)}{it:IF}{g:GF}{te:EF}{Y:aU}{t:Tag}{l:List Int}{p:Int->Bool}(hi:it Y=some (l.map D.int,t))(hl:l.length<=10000)(h:∀x∈l,jH g lU te (jA js Y) (.int x)=some (some (.bl (p x)))):
  e1 tG (eW js it g lU te) Y=some (.bl (l.all p),.own):=by
 have hc:=kH (k:=λd=>match d with | .int x=>some (.bl (p x)) | _=>none) hi (by rw[List.length_map];apply size_le hl) (λd m=>by
  let#[x,mx,rfl]:=acg.mp m;apply h x mx)
 rw[uJ,hc,DG,agX];have e:l.filterMap ((λd=>match d with|D.int x=>some (D.bl (p x))|_=>none) ∘ D.int)=(l.map p).map D.bl:=by
  rw[adK];apply nj (λx=>D.bl (p x)) _
 rw[e,H_,aiM];rfl
def f_are{E:List Ed}(hl:E.length<=100):aaR [eL E]=some (.bl (xm E)):=by
 let#[t1,t2,t3,uM]:=Mb;refine bq rfl ?_;unfold xm;cases ha:E.all tM with
 |false=>
  rw[ha] at uM;apply jX (VC rfl uM)
 |true=>
  rw[ha] at uM;refine sq (Ck rfl uM) (cu (bP (ps:=[(iL (E.map λp:Ed=>p.1),.own)]) ?_ (QU (by rw[List.length_map];apply hl))));rw[aM,kH (k:=λd=>match d with | .tup [.int a,.int _,.int _]=>some (.int a) | _=>none) rfl (by rw[List.length_map];apply size_le (by lia)) (λd m=>by
   let#[#[a,b,c],mi,rfl]:=acg.mp m;apply nL rfl rfl rfl),agX]
  unfold iL;rw[adK,show E.filterMap ((λd=>match d with|D.tup [.int a,.int _,.int _]=>some (D.int a)|_=>none) ∘ dT)=E.map (D.int ∘ (·.1)) from nj (λp:Ed=>D.int p.1) _];rfl
abbrev Ch:=Int×List Int×List Ed
def ent(c:Ch):D:=.tup [.int c.1,.tup (c.2.1.map D.int),.tup (c.2.2.map dT)]
def obj(C:List Ch):D:=.ins "Changes" [("entries",.lst (C.map ent))]
def Ic(c:Ch):aH (ent c)=true:=by
 unfold ent;show aP [.int c.1,.tup (c.2.1.map D.int),.tup (c.2.2.map dT)]=true;unfold aP;unfold aP;unfold aP;unfold aP;show(aH (.int c.1)&&(aP (c.2.1.map D.int)&&(aP (c.2.2.map dT)&&true)))=true;rw[fm,xG];rfl
theorem GX:∀C:List Ch,aP (C.map ent)=true
 |[]=>rfl
 |c::r=>by rw[aaB];unfold aP;rw[GX r,Ic];rfl
def k8{F:List D->Option D}{ps:List (D×Tag)}(h:fo Y=some (.ins cn es,t))(hm:es.lookup m=none)(hg:g Y=some ps)(hF:F (.ins cn es::ps.map (·.1))=some d):
  bN cn m F fo g Y=some (d,.own):=by
 unfold bN;rw[h];dsimp only;rw[if_pos #[rfl,hm],hg,adG,hF];rfl
def uB(h:(mm==("entries":Str))=false):([("entries",d)]:List (Str×D)).lookup mm=none:=by simp only[List.lookup,h]
def Nq(C:List Ch):Fc [obj C]=some (.int C.length):=bq rfl (cu (cN rfl (by rw[oZ,List.length_map])))
def K_(h:aj i Y=some (obj C,t)):bN "Changes" "many" Fc (aj i) aA Y=some (.int C.length,.own):=
 k8 h (uB (by decide)) xM (Nq C)
def lA{F:List D->Option D}(h:aj i Y=some (obj C,t))(ha:fa Y=some (x,t2))(hF:F [obj C,x]=some d)(hm:(mm==("entries":Str))=false:=by decide):
  bN "Changes" mm F (aj i) (ao fa aA) Y=some (d,.own):=
 k8 (ps:=[(x,t2)]) h (uB hm) (by rw[aM,ha,xM,Dv]) hF
def yI(C:List Ch)(m:Int):xH [obj C,.int m]=some (.bl (inR m 1 C.length)):=
 bq rfl (cu (bP (ps:=[(.int m,.sh []),(.int 1,.own),(.int C.length,.own)]) (by rw[aM,aM,aM,K_ rfl];rfl) Ct))
def nH(n:Nat)(r:Int)(l:List Int)(E:List Ed):Bool:=inR r 0 9&&(l.all (λx=>inR x 1 n)&&qO l)&&(decide ((E.length:Int)<=20)&&xm E)
def mU(h1:fa Y=some (.bl b,t))(h2:fb Y=some (.bl c,.own)):vp fa fb Y=some (.bl (b&&c),.own):=by
 rw[aey,h1];ext b
 .rfl
 .exact h2
def UP{C:List Ch}{r:Int}{l:List Int}{E:List Ed}(hl:l.length<=100)(hE:E.length<=100):aeZ [obj C,.int r,iL l,eL E]=some (.bl (nH C.length r l E)):=by
 have q1:=kN (yy (Y:=[some (obj C,.sh []),some (.int r,.sh []),some (iL l,.sh []),some (eL E,.sh [])]) (i:=1) (a:=0) (b:=9) rfl);have q2:=R3 (kN (bA (MS (js:=[none,some 0]) (it:=fG (aj 2)) (g:=gN 0) (te:=bN "Changes" "has" xH (aj 1) (ao (aj 0) aA)) (Y:=[some (obj C,.sh []),some (.int r,.sh []),some (iL l,.sh []),some (eL E,.sh [])]) (gX rfl) (by lia) (λx mx=>nL rfl rfl (lA rfl rfl (yI C x)))))) (kN (bA (bP (g:=ao (aj 2) aA) rfl (QU hl))));refine bq rfl ?_;unfold nH;cases h0:inR r 0 9 with
 |false=>rw[h0] at q1;apply qC q1 (jX rfl)
 |true=>
  rw[h0] at q1;refine bZ q1 ?_;cases h1:l.all λx=>inR x 1 C.length with
  |false=>rw[h1] at q2;apply qC q2 (jX rfl)
  |true=>
   cases h2:qO l with
   |false=>rw[h1,h2] at q2;apply qC q2 (jX rfl)
   |true=>
    rw[h1,h2] at q2;apply bZ q2 (cu (mU (c:=xm E) (aQ (cN rfl (by unfold eL;rw[oZ,List.length_map])) rfl XC) (bP rfl (f_are hE))))
def Ar(h1:fv Y=some (d,t))(h2:Y[i]? = some (some (.ins cn es,.own)))(hl:es.lookup f=some (.lst ds))(hc:(aH d&&aP ds&&decide (ds.length<sizeLine))=true):
  Dk i cn f fv Y=some (.nx (cP Y i (.ins cn (dY f (.lst (ds++[d])) es)))):=by
 unfold Dk;rw[h1,h2];dsimp only;rw[if_pos rfl,hl];dsimp only;rw[if_pos hc]
def jG(h:f Y=some (.nx Y')):lE f Y=some (.nx Y'):=by unfold lE;rw[h]
def lX(hl:ds.length+1=n)(h:b (BZ N d0 ds)=some (.rt (.tup [r,d1]))):runM n N b d0 ds=some (r,d1):=by unfold runM;rw[if_pos hl,h]
def agW{C:List Ch}{r:Int}{l:List Int}{E:List Ed}(hl:l.length<=100)(hE:E.length<=100)(hm:nH C.length r l E=true)(hC:C.length<60):B9 (obj C) [.int r,iL l,eL E]=some (.int (C.length+1),obj (C++[(r,l,E)])):=by
 refine lX rfl ?_;refine bZ (kN (b:=true) (bA (k8 rfl (uB (by decide)) rfl ((UP hl hE).trans (by rw[hm]))))) ?_;refine bZ (bA (aQ (K_ rfl) rfl (by rw[aeN,aa8 (by lia)]))) ?_;refine sq (Y':=[some (obj (C++[(r,l,E)]),.own),some (.int r,.sh []),some (iL l,.sh []),some (eL E,.sh [])]) ((jG (Ar (d:=ent (r,l,E)) (t:=.sh []) ?_ rfl rfl (by rw[Ic,GX,aaC (by rw[List.length_map];apply size_le (by lia))];rfl))).trans ?_) ?_
 .rw[m6,aM,aM,aM,cN rfl CS,cN (d:=eL E) (t:=.own) ?_ (if_pos (xG E))]
  .rfl
  .refine(kH (gX rfl) (by rw[List.length_map];apply size_le (by lia)) (λd m=>by
    let#[#[a,b,c],mx,rfl]:=acg.mp m;apply nL rfl rfl rfl)).trans ?_
   rw[nj (λd:D=>d),List.map_id'];rfl
 .unfold obj;rw[aea];rfl
 .show wj _ _ _=_;unfold wj;rw[K_ rfl,aa3];rfl
def sV{i:Int}(h1:-1000<=i)(h2:i<=1000):small i=true:=by
 unfold small;rw[aaC (show -(2 ^ 62)<=i by lia),aaC (show i<2 ^ 62 by lia)];rfl
def aJ(a:Int)(n:Nat):List Int:=(List.range n).map λi:Nat=>a+(i:Int)
def dX{a x:Int}{n:Nat}:x∈aJ a n↔a<=x/\x<a+n:=by
 unfold aJ;rw[acg];constructor
 .rintro⟨i,m,rfl⟩
  have:=ahD.mp m
  lia
 .intro h;apply#[(x-a).toNat,ahD.mpr (by lia),by lia]
def vM(a:Int)(n:Nat):(aJ a n).Pairwise (· < ·):=by
 unfold aJ;rw[ain];apply List.pairwise_lt_range.imp (λh=>by lia)
def yf(h:f Y=some (.int i,t))(h2:g Y=some (.int j,t2))(hi:small i=true)(hj:small j=true):pV f g Y=some ((aJ i (j-i).toNat).map D.int,.own):=by
 unfold pV;rw[h,h2];dsimp only;rw[if_pos (by rw[hi,hj];rfl)];unfold aJ;rw[adK];rfl
theorem iF(p:Int->Bool)(f:Int->Int):∀l:List Int,l.filterMap (λx=>if p x=true then some (D.int (f x)) else none)=((l.filter p).map f).map D.int
 |[]=>rfl
 |a::r=>by
  rw[afi]
  by_cases hp:p a=true
  .rw[ag1 hp,if_pos hp,iF p f r];rfl
  .rw[aiv hp,abo hp,iF p f r]
def Jy{js:List (Option Nat)}{it:IF}{g:GF}{tt:TF}{te:EF}{Y:aU}{t:Tag}{l:List Int}{p:Int->Bool}{f:Int->Int}(hi:it Y=some (l.map D.int,t))(hl:l.length<=10000)(h:∀x∈l,jH g tt te (jA js Y) (.int x)=some (if p x=true then some (.int (f x)) else none)):
  eW js it g tt te Y=some (iL ((l.filter p).map f),.own):=by
 have hc:=kH (k:=λd=>match d with | .int x=>if p x=true then some (.int (f x)) else none | _=>none) hi (by rw[List.length_map];apply size_le hl) (λd m=>by
  let#[x,mx,rfl]:=acg.mp m;apply h x mx)
 rw[hc]
 congr 3
 clear hc h hi hl;rw[agX];apply iF p f l
def lean(L:List (List Int))(m:Int):List Int:=if 1<=m then(L[(m-1).toNat]?).getD [] else[]
abbrev sec(C:List Ch):List (List Int):=C.map (·.2.1)
def IJ{α:Type}{f:α->D}{L:List α}{m:Int}{l:α}(h1:1<=m)(h2:m<=L.length)(h:L[(m-1).toNat]? = some l):gG (L.map f) (m-1)=some (f l):=by
 unfold gG qv;rw[List.length_map];rw[if_pos (by omega),if_pos (by omega),adG,adm,h];rfl
def ch(L:List Ch)(m:Int):Ch:=(L[(m-1).toNat]?).getD (0,[],[])
def HM{L:List Ch}{m:Int}(h1:1<=m)(h2:m<=L.length):L[(m-1).toNat]? = some (ch L m):=by
 unfold ch;rw[abm (by lia)];rfl
def ko{L:List Ch}{m:Int}(h1:1<=m)(h2:m<=L.length):(ch L m).2.1=lean (sec L) m:=by
 unfold ch lean sec;rw[if_pos h1,adm,abm (by lia)];rfl
def DZ{L:List Ch}{m:Int}(h1:1<=m)(h2:m<=L.length):UI [obj L,.int m]=some (ent (ch L m)):=
 bq rfl (bZ (kN (b:=true) (bA (lA rfl rfl ((yI L m).trans (by unfold inR;rw[aaC h1,aaC h2];rfl))))) (cu (aQ rfl rfl (uF (IJ h1 h2 (HM h1 h2)) (Ic _)))))
def Fx{L:List Ch}{m:Int}(h1:1<=m)(h2:m<=L.length):Dt [obj L,.int m]=some (iL (lean (sec L) m)):=
 bq rfl (cu (cN (aQ (lA rfl rfl (DZ h1 h2)) rfl (if_pos (show aH (D.tup _)=true by simp only[aH,fm]))) (by rw[O8,ko h1 h2];rfl)))
def cG(L:List Ch)(m:Int):List Ed:=(ch L m).2.2
def xW{L:List Ch}{m:Int}(h1:1<=m)(h2:m<=L.length):yu [obj L,.int m]=some (eL (cG L m)):=
 bq rfl (cu (cN (aQ (lA rfl rfl (DZ h1 h2)) rfl (if_pos (show aH (D.tup _)=true from xG _))) (if_pos (xG _))))
def pI{e:EF}{Y:aU}{n:Nat}{t:Tag}(h:e Y=some (.int n,t))(hs:n<=1000):sS e Y=some ((aJ 0 n).map D.int,.own):=by
 rw[ir1 h (sV (by lia) (by lia)),aim];unfold aJ;rw[adK];rfl
def Az{l:List Int}:l.any (· == m)=decide (m∈l):=by
 by_cases h:m∈l
 .rw[aaC h];apply aeK.mpr #[m,h,by simp]
 .rw[aa8 h,ahe];intro e;let#[y,my,ey]:=aeK.mp e;apply h (by rw[<- (ahp.mp ey)];apply my)
def zx:x∈e_ l↔x∈l:=(sX l).mem_iff
structure Hh(E:List Ed)(n:Nat):Prop where
 so:(E.map (·.1)).Pairwise (·<=·)
 ln:E.length<=n
def Ll(h:n<4096):n<sizeLine:=by unfold sizeLine;lia
def oz(es:List (Int×Int))(p:Int×Int×Int):Bool:=!((bR es p.1).getD 0==p.2.1)
def bad(es:List (Int×Int))(E:List (Int×Int×Int)):List Int:=(E.filter (oz es)).map (·.1)
def vO:List Int->D
 |[]=>.aC
 |x::_=>.int x
def acG:∀{x} {l},(x::l).Pairwise (·<=·)->kq (x::l)=x
 |x,l,h=>by
  let#[h1,h2]:=HG (l:=x::l) (by simp);have h3:=h2 x aah;rcases aaO.mp h1 with e|m
  .exact e
  .have:=(aew.mp h).1 _ m;lia
def kW(es:List (Int×Int)):D->Option D
 |.tup [.int a,.int b,.int c]=>if oz es (a,b,c)=true then some (.int a) else none
 |_=>none
def ag7:∀p,kW es (dT p)=if oz es p=true then some (D.int p.1) else none
 |(_,_,_)=>rfl
def D0(hE:Hh E n)(hn:n<64)(w:List D->D)(hw:fG (aj 1) [some (cM es,.sh []),some (w (E.map dT),.sh [])]=some (E.map dT,.sh [])):Hz [cM es,w (E.map dT)]=some (vO (bad es E)):=by
 have hc:=kH (js:=[none,none,none,some 0]) (g:=gT (gj (gN 0) (gj (gN 1) (gj (gN 2) n_)))) (tt:=tV (e2 k9 (e3 uE (aj 3) (aj 0) (eC (.int 0))) (aj 1))) (te:=aj 0) (k:=kW es) hw (by rw[List.length_map];apply Ll (by have:=hE.ln;lia)) (λd m=>by
  let#[#[a,b,c],mi,rfl]:=acg.mp m;show _=some (if oz es (a,b,c)=true then some (D.int a) else none);have ht:(tV (e2 k9 (e3 uE (aj 3) (aj 0) (eC (.int 0))) (aj 1))) [some (.int a,.own),some (.int b,.own),some (.int c,.own),some (cM es,.sh [])]=some (oz es (a,b,c)):=by
   rw[yE,kM,aen];show Ev.kV (k2 k9 ((uE (cM es) (.int a) (.int 0)).map _) _)=_;rw[Zb];rfl
  by_cases h:oz es (a,b,c)=true
  .rw[if_pos h];apply v9 (bf:=[some (.int a,.own),some (.int b,.own),some (.int c,.own),some (cM es,.sh [])]) rfl (by rw[ht,h]) rfl rfl
  .rw[abo h];apply Bd (bf:=[some (.int a,.own),some (.int b,.own),some (.int c,.own),some (cM es,.sh [])]) rfl (by rw[ht,ahe.mpr h]))
 have hb:(E.map dT).filterMap (kW es)=(bad es E).map D.int:=by
  clear hc hw hE;unfold bad
  induction E with
  |nil=>rfl
  |cons p r ih=>
   rw[aaB,afi,ag3,ag7]
   by_cases h:oz es p=true
   .rw[if_pos h,if_pos h];dsimp only;rw[ih];rfl
   .rw[abo h,abo h];apply ih
 rw[hb] at hc;have hs:(bad es E).Pairwise (·<=·):=by
  unfold bad;have:=hE.so;rw[ain] at this ⊢;apply this.filter _
 refine bq rfl (cu (aQ hc rfl ?_));show(match eF ((bad es E).map D.int) with|some []=>if aH .aC=true then some D.aC else none|some (n::r)=>some (D.int (kq (n::r)))|none=>none)=_;rw[sU];cases e:bad es E with
 |nil=>rfl
 |cons x l=>
  dsimp only;rw[acG (by rw[<- e];apply hs)];rfl
def t8(es:List (Int×Int)):List Int:=(e_ (es.map (·.1))).filter λk=>!((bR es k).getD 0==0)
def nz(es:List (Int×Int)):List (Int×Int):=(t8 es).map λk=>(k,(bR es k).getD 0)
def kS(es:List (Int×Int)):D->Option D
 |.int i=>if(!((bR es i).getD 0==0))=true then some (dP (i,(bR es i).getD 0)) else none
 |_=>none
def abt(hl:es.length<64):Xa [cM es]=some (.lst ((nz es).map dP)):=by
 have hs:(e1 m7 (aj 0)) [some (cM es,.sh [])]=some (.lst ((e_ (es.map (·.1))).map D.int),.own):=by
  rw[uJ];show(m7 (cM es)).map _=_;rw[Vu (by omega)];rfl
 have hc:=kH (js:=[none,some 0]) (g:=gN 0) (tt:=tV (e2 k9 (e2 m9 (aj 1) (aj 0)) (eC (.int 0)))) (te:=ia (ao (aj 0) (ao (e2 m9 (aj 1) (aj 0)) aA))) (k:=kS es)
   (gX hs) (by rw[List.length_map,Fz,List.length_map];apply Ll (by omega)) (λd m=>by
  let#[i,mi,rfl]:=acg.mp m;let#[w,hw]:=rK.mpr (zx.mp mi);have hg:=aed hw;show _=some (if(!((bR es i).getD 0==0))=true then some (dP (i,(bR es i).getD 0)) else none);have ht:(tV (e2 k9 (e2 m9 (aj 1) (aj 0)) (eC (.int 0)))) [some (.int i,.sh []),some (cM es,.sh [])]=some (!((bR es i).getD 0==0)):=by
   rw[yE,kM,kM];show Ev.kV (k2 k9 ((m9 (cM es) (.int i)).map _) _)=_;rw[hg,hw];rfl
  by_cases h:(!((bR es i).getD 0==0))=true
  .rw[if_pos h];refine v9 (bf:=[some (.int i,.sh []),some (cM es,.sh [])]) (tg:=.sh []) rfl (by rw[ht,h]) ?_ rfl;rw[m6,aM,aM,kM];show Option.map _ (mD _ (mD ((m9 (cM es) (.int i)).map _) _))=_;rw[hg,hw];rfl
  .rw[abo h];apply Bd (bf:=[some (.int i,.sh []),some (cM es,.sh [])]) rfl (by rw[ht,ahe.mpr h]))
 refine(bq rfl (cu hc)).trans ?_
 congr 2
 unfold nz t8;generalize e_ (es.map (·.1))=l;clear hs hc
 induction l with
 |nil=>rfl
 |cons x r ih=>
  rw[aaB,afi,ag3]
  by_cases h:(!((bR es x).getD 0==0))=true
  .rw[if_pos h,show kS es (.int x)=some (dP (x,(bR es x).getD 0)) from if_pos h];dsimp only;rw[ih];rfl
  .rw[abo h,show kS es (.int x)=none from abo h];apply ih
def iu(es:List (Int×Int))(E:List (Int×Int×Int)):List (Int×Int):=E.foldl (λm p=>gS m p.1 p.2.2) es
theorem T7:∀(E) (es),(es.map (·.1)).Nodup->((iu es E).map (·.1)).Nodup
 |[],_,h=>h
 |p::r,es,h=>T7 r _ (RT h)
theorem IZ:∀(E) (es) (k),(E.map (·.1)).Nodup->(∀p∈E,p.1=k->bR (iu es E) k=some p.2.2)/\(k∉E.map (·.1)->bR (iu es E) k=bR es k)
 |[],es,k,_=>#[λp m=>(nomatch m),λ_=>rfl]
 |q::r,es,k,h=>by
  let#[h1,h2]:=ab6.mp h;let#[a,b]:=IZ r (gS es q.1 q.2.2) k h2;refine#[λp m e=>?_,λm=>?_]
  .rcases aaO.mp m with rfl|m
   .show bR (iu (gS es p.1 p.2.2) r) k=_;rw[b (by rw[<- e];apply h1),Bk,if_pos e.symm]
   .exact a p m e
  .show bR (iu (gS es q.1 q.2.2) r) k=_;rw[aaB] at m;rw[b λx=>m (aab _ x),Bk,abo λx=>m (by rw[x];apply aah)]
abbrev kY:=List (Int×Int)
theorem DI(S:kY->Slot->Slot->Slot->aU)(hg:∀v x y z (p:Ed),g (dT p) t (S v x y z)=some (S v (some (.int p.1,.own)) (some (.int p.2.1,.own)) (some (.int p.2.2,.own))))(hf:∀v (p:Ed),v.length<sizeLine->f (S v (some (.int p.1,.own)) (some (.int p.2.1,.own)) (some (.int p.2.2,.own)))=some (.nx (S (gS v p.1 p.2.2) (some (.int p.1,.own)) (some (.int p.2.1,.own)) (some (.int p.2.2,.own))))):
  ∀{E} {v} {x y z},v.length+E.length<4096->∃x' y' z',dD g t f (E.map dT) (S v x y z)=some (.nx (S (iu v E) x' y' z'))
 |[],_,x,y,z,_=>#[x,y,z,rfl]
 |p::E,v,x,y,z,hl=>by
  rw[acF] at hl;let#[x',y',z',ih]:=DI S hg hf (E:=E) (v:=gS v p.1 p.2.2) (by have:=Z5 (es:=v) (k:=p.1) (v:=p.2.2);lia);apply#[x',y',z',(jx (hg ..) (hf _ _ (Ll (by lia)))).trans ih]
def yG(S L:D)(es:List (Int×Int))(s3 s4 s5 s6 s7:Slot):aU:=[some (S,.sh []),some (L,.sh []),some (cM es,.own),s3,s4,s5,s6,s7]
abbrev OD:GF:=gT (gj (gN 5) (gj (gN 6) (gj (gN 7) n_)))
abbrev SN:SF:=tO 2 (aj 5) (aj 7)
def QG:k∈t8 es↔(bR es k).getD 0≠0:=by
 unfold t8;rw[adh];refine#[λh=>by simpa using h.2,λh=>#[zx.mpr (rK.mp ?_),by simpa using h]];cases e:bR es k with
 |none=>rw[e] at h;apply absurd rfl h
 |some v=>apply#[v,rfl]
def QF(h:(es.map (·.1)).Nodup):(t8 es).Nodup:=((sX _).nodup_iff.mpr h).sublist afr
def Ox:(nz es).map (·.1)=t8 es:=by
 unfold nz;rw[adK];apply List.map_id' _
theorem Kr(f:Int->Int)(k:Int):∀l:List Int,bR (l.map λk=>(k,f k)) k=if k∈l then some (f k) else none
 |[]=>rfl
 |x::r=>by
  have ih:=Kr f k r;rw[aaB];unfold bR at ih ⊢;rw[adV]
  by_cases hx:x=k
  .rw[aaC hx,if_pos (by rw[hx];apply aah),hx];rfl
  .rw[aa8 hx];dsimp only;rw[ih];have:(k∈x::r)↔k∈r:=#[λm=>(aaO.mp m).elim (λe=>absurd e.symm hx) id,aab _]
   simp only[this]
def Zl(k:Int):(bR (nz es) k).getD 0=(bR es k).getD 0:=by
 unfold nz;rw[Kr]
 by_cases h:k∈t8 es
 .rw[if_pos h];rfl
 .rw[abo h];have:=mt QG.mpr h;simp only[ne_eq,Decidable.not_not] at this;rw[this];rfl
def HC(h:(es.map (·.1)).Nodup)(k:Int):(bR (iE (nz es)) k).getD 0=(bR es k).getD 0:=by
 rw[RQ (by rw[Ox];apply QF h),Zl]
def Yb(ps:List (Int×Int)):((iE ps).map (·.1)).Nodup:=by
 have go:∀(ps m:List (Int×Int)),(m.map (·.1)).Nodup->((ps.foldl (λm p=>gS m p.1 p.2) m).map (·.1)).Nodup:=by
  intro ps
  induction ps with
  |nil=>intro m h;apply h
  |cons p r ih=>intro m h;apply ih _ (RT h)
 apply go ps [] ac6
theorem sub_len[DecidableEq α]:∀{l m:List α},l.Nodup->(∀x∈l,x∈m)->l.length<=m.length
 |[],m,_,_=>ade _
 |a::l,m,h,s=>by
  let#[ha,hl]:=ab6.mp h;have ma:=s a aah;have:=sub_len (m:=m.erase a) hl λx mx=>(List.mem_erase_of_ne λe=>ha (by rw[<- e];apply mx)).mpr (s x (aab _ mx))
  rw[List.length_erase_of_mem ma] at this;have:=List.length_pos_of_mem ma;rw[acF];omega
def YA(h:k∈(gS es a c).map (·.1)):k=a\/k∈es.map (·.1):=by
 let#[w,e]:=rK.mpr h;rw[Bk] at e
 split at e
 .rename_i q;apply .inl q
 .exact .inr (rK.mp #[w,e])
theorem N1{S:List Int}:∀{E} {es},(∀p∈E,p.1∈S)->(∀k∈es.map (·.1),k∈S)->∀k∈(iu es E).map (·.1),k∈S
 |[],es,_,h=>h
 |p::E,es,hE,h=>N1 (es:=gS es p.1 p.2.2) (λq m=>hE q (aab _ m)) λk m=>(YA m).elim (λe=>by rw[e];apply hE p aah) (h k)
def fu:kY->List (List Ed)->Option kY
 |v,[]=>some v
 |v,E::r=>if bad v E=[] then fu (iu v E) r else none
structure Kb(Sl:List Int)(v:kY):Prop where
 sl:Sl.length<=60
 nd:(v.map (·.1)).Nodup
 ks:∀k∈v.map (·.1),k∈Sl
def Kb.len{v:kY}(h:Kb Sl v):v.length<=60:=by
 have:=sub_len h.nd h.ks;rw[List.length_map] at this;apply af0 this h.sl
def Kb.nil(h:Sl.length<=60):Kb Sl []:=#[h,.nil,λk m=>nomatch m]
structure Ee(Sl:List Int)(E:List Ed):Prop where
 ed:Hh E 20
 nd:(E.map (·.1)).Nodup
 sl:∀p∈E,p.1∈Sl
theorem Kb.iu{v:kY}(h:Kb Sl v)(e:Ee Sl E):Kb Sl (iu v E):=#[h.sl,T7 E v h.nd,N1 e.sl h.ks]
abbrev NT(Z:SF):SF:=cz (dw 4 (bC Hz (ao (aj 2) (ao (aj 3) aA)))) (cz (dN (tV (e2 wV (aj 4) (eC .aC))) Z eO) (jM (fG (aj 3)) OD SN))
def adM{Z:SF}{S L:D}(hE:Hh E 20)(hb:bad v E=[])(hl:v.length<=3000):∃t5 t6 t7,NT Z (yG S L v (some (eL E,.sh [])) s4 s5 s6 s7)=some (.nx (yG S L (iu v E) (some (eL E,.sh [])) (some (.aC,.own)) t5 t6 t7)):=by
 have hle:=hE.ln;let#[t5,t6,t7,lp]:=DI (g:=OD) (f:=SN) (λv x y z=>yG S L v (some (eL E,.sh [])) (some (.aC,.own)) x y z) (λ_ _ _ _ _=>rfl) (λv p h=>Pj rfl rfl rfl h) (E:=E) (v:=v) (by lia);apply#[t5,t6,t7,b7 (d:=.aC) (bP rfl (by show Hz [cM v,.lst (E.map dT)]=_;rw[D0 hE (by lia) D.lst rfl,hb];rfl)) (sq rfl (Ck rfl lp))]
theorem Sm{Z:SF}{S L:D}:∀{Es} {v v'} {s3 s4 s5 s6 s7},(∀E∈Es,Ee Sl E)->fu v Es=some v'->Kb Sl v->
  ∃t3 t4 t5 t6 t7,dD (gN 3) (.sh []) (NT Z) (Es.map eL) (yG S L v s3 s4 s5 s6 s7)=some (.nx (yG S L v' t3 t4 t5 t6 t7))/\Kb Sl v'
 |[],v,v',s3,s4,s5,s6,s7,_,h,k=>by
  ext h;apply#[s3,s4,s5,s6,s7,rfl,k]
 |E::Es,v,v',s3,s4,s5,s6,s7,hE,h,k=>by
  unfold fu at h
  by_cases hb:bad v E=[]
  .rw[if_pos hb] at h;have Rl:=hE E aah;let#[t5,t6,t7,hs]:=adM Rl.ed hb (by have:=k.len;lia);let#[u3,u4,u5,u6,u7,ih,k']:=Sm (λE' m=>hE E' (aab _ m)) h (k.iu Rl);apply#[u3,u4,u5,u6,u7,(jx rfl hs).trans ih,k']
  .rw[abo hb] at h;ext h
def dS(ps:kY):D:=.lst (ps.map dP)
def eV(C:List Ch)(row:List Int):List (List Ed):=row.map (cG C)
abbrev Row(C:List Ch)(ns:List Int):Prop:=∀x∈ns,1<=x/\x<=(C.length:Int)
structure GoodC(Sl:List Int)(C:List Ch):Prop where
 ln:C.length<=60
 sl:Sl.length<=60
 ed:∀m,Ee Sl (cG C m)
 bd:∀m x,1<=m->m<=(C.length:Int)->x∈lean (sec C) m->1<=x/\x<m
 few:∀m,(lean (sec C) m).length<=60
def zL{C:List Ch}{row:List Int}(g:GoodC Sl C)(hb:Row C row)(hl:row.length<=100)(h:fu [] (eV C row)=some v):Q9 [obj C,iL row]=some (dS (nz v))/\Kb Sl v:=by
 have hE:∀E∈eV C row,Ee Sl E:=λE m=>by
  let#[x,_,rfl]:=acg.mp m;apply g.ed x
 let#[t3,t4,t5,t6,t7,uM,kv]:=Sm hE h (Kb.nil g.sl);have hc:=kH (js:=[none,some 0]) (it:=fG (aj 1)) (Y:=[some (obj C,.sh []),some (iL row,.sh [])]) (g:=gN 0) (tt:=lU) (te:=bN "Changes" "edits_of" yu (aj 1) (ao (aj 0) aA)) (k:=λd=>match d with | .int x=>some (eL (cG C x)) | _=>none) (gX rfl) (by rw[List.length_map];apply size_le (by lia)) (λd m=>by
  let#[x,mx,rfl]:=acg.mp m;let#[h1,h2]:=hb x mx;apply nL rfl rfl (lA rfl rfl (xW h1 h2)))
 rw[agX,show(row.filterMap ((λd=>match d with|D.int x=>some (eL (cG C x))|_=>none) ∘ D.int))=(eV C row).map eL from(nj _ _).trans (by unfold eV;rw[adK];rfl)] at hc;apply#[bq rfl (cu (bP (by rw[aM,aM];show mD _ (mD (eW _ _ _ _ _ [some (obj C,.sh []),some (iL row,.sh [])]) _)=_;rw[hc];rfl) (bq rfl (b7 rfl (sq (Ck rfl uM) (cu (bP (ps:=[(cM v,.sh [2])]) rfl (abt (by have:=kv.len;lia))))))))),kv]
abbrev gV(es:kY)(k:Int):Int:=(bR es k).getD 0
def fU(C:List Ch)(v:kY)(m:Int):Bool:=(bad v (cG C m)).isEmpty
def aeA:fU C v m=true↔bad v (cG C m)=[]:=List.isEmpty_iff
def acR:jv (vO l) .aC=some (.bl l.isEmpty):=by ext l<;>rfl
def lS{l:List Int}(hi:it Y=some (l.map D.int,t))(hl:l.length<=10000)(hr:∀x,gN 0 (.int x) (.sh []) (jA js Y)=some (some (.int x,.sh [])::r))(h:∀x∈l,tt (some (.int x,.sh [])::r)=some (p x)):
  eW js it (gN 0) tt (aj 0) Y=some (iL (l.filter p),.own):=by
 have:=Jy (tt:=tt) (te:=aj 0) hi hl (λx mx=>by
  by_cases hp:p x=true
  .rw[if_pos hp];apply v9 (hr x) (by rw[h x mx,hp]) rfl rfl
  .rw[abo hp];apply Bd (hr x) (by rw[h x mx,ahe.mpr hp]))
 rw[List.map_id'] at this;apply this
def X0(h1:fv Y=some (.int n,t))(h2:Y[i]? = some (some (iL ns,.own)))(hm:n∈ns):zf i fv Y=some (.nx (cP Y i (iL (ns.erase n)))):=by
 unfold zf;rw[h1,h2];unfold iL;dsimp only;rw[sU];dsimp only;rw[if_pos hm]
def kB(k:Int):Key×D:=(Sum.inl k,.bl true)
def dB(ks:List Int):D:=.bS (ks.map kB)
def add(ks:List Int)(k:Int):List Int:=if k∈ks then ks else ks++[k]
def acZ:x∈add ks k↔x∈ks\/x=k:=by
 unfold add
 by_cases h:k∈ks
 .rw[if_pos h];apply#[.inl,λe=>e.elim id λe=>by rw[e];apply h]
 .rw[abo h,abC,aav]
def PK{ks:List Int}:((ks.map kB).any λkv=>decide (kv.1=(Sum.inl k:Key)))=decide (k∈ks):=by
 induction ks with
 |nil=>simp
 |cons a r ih=>
  rw[aaB,aiu,ih];have:decide ((kB a).1=(Sum.inl k:Key))=decide (a=k):=by
   apply aiz.mpr uY
  rw[this]
  by_cases h:a=k
  .subst h;simp
  .simp[h,agM h]
def ae6{ks:List Int}:pF false (.int x) (dB ks)=some (.bl (decide (x∈ks))):=by
 show some (D.bl (if false=true then _ else(aZ (ks.map kB) (Sum.inl x:Key)).isSome))=_;rw[abo aa2,<- PK];unfold aZ;rw[ahZ]
 congr 2
 rw[aiO,List.find?_isSome,aeK]
def aak{ks:List Int}:putD (ks.map kB) (Sum.inl k:Key) (.bl true)=(add ks k).map kB:=by
 unfold putD add;rw[PK]
 by_cases h:k∈ks
 .rw[if_pos (aaC h),if_pos h,adK];refine afw λa _=>?_
  show(if(Sum.inl a:Key)=Sum.inl k then((Sum.inl a:Key),D.bl true) else kB a)=kB a
  split<;>rfl
 .rw[abo (by simpa using h),abo h,aea];rfl
def adds(m l:List Int):List Int:=l.foldl add m
theorem LP:∀{l m} {x},x∈adds m l↔x∈m\/x∈l
 |[],m,x=>by simp[adds]
 |a::l,m,x=>by
  have:=LP (l:=l) (m:=add m a) (x:=x);show x∈adds (add m a) l↔_;rw[this,acZ,aaO,or_assoc]
def qm(x:Int):D:=.tup [.int x,.bl true]
theorem Tu:∀l:List Int,i9 (l.map qm)=some (l.map kB)
 |[]=>rfl
 |p::r=>by
  rw[aaB];show(match iw (.int p),i9 (r.map qm) with|some k,some ps=>if aH (.bl true)=true then some ((k,D.bl true)::ps) else none|_,_=>none)=_;rw[Tu r];rfl
theorem Rf:∀(l m),(l.map kB).foldl (λm p=>putD m p.1 p.2) (m.map kB)=(adds m l).map kB
 |[],_=>rfl
 |p::r,m=>by rw[aaB,aeO];show(r.map kB).foldl _ (putD (m.map kB) (Sum.inl p:Key) (.bl true))=_;rw[aak];apply Rf r _
def ago:yj (.lst (l.map qm))=some (dB (adds [] l)):=by
 show(i9 (l.map qm)).map _=_;rw[Tu];show some (D.bS ((l.map kB).foldl (λm p=>putD m p.1 p.2) []))=_;rw[show([]:List (Key×D))=([]:List Int).map kB from rfl,Rf];rfl
def iM(C:List Ch)(there:List Int)(m:Int):Bool:=(lean (sec C) m).all λx=>decide (x∈there)
def tw{g:SF}(Y':aU)(h:g Y'=r)(e:Y=Y':=by rfl):g Y=r:=by rw[e,h]
def Q8(h:f Y=some (iL a,t))(h2:g Y=some (iL b,t2))(hl:a.length+b.length<=1000):e2 gQ (e1 vA f) (e1 vA g) Y=some (iL (a++b),.own):=
 aQ (cN h vU) (cN h2 vU) (zm (by rw[aga];lia))
def Iw(g:GoodC Sl C){a b wt:List Int}(hl:a.length+b.length<=1000)(hw:Row C wt)(AU:wt.length<=1000):AE [obj C,iL a,iL b,iL wt]=some (iL (wt.filter (iM C (a++b)))):=by
 refine bq rfl (b7 (cN (t:=.own) ?_ ago) (tw [some (obj C,.sh []),some (iL a,.sh []),some (iL b,.sh []),some (iL wt,.sh []),some (dB (adds [] (a++b)),.own)] (cu (lS (gX rfl) (by lia) (λx=>rfl) (λx rm=>?_)))))
 .refine(kH (k:=λd=>match d with | .int x=>some (qm x) | _=>none) (gX (Q8 rfl rfl hl)) (by rw[List.length_map,aa3];apply size_le (by lia)) (λd m=>by
   let#[x,rm,rfl]:=acg.mp m;apply v9 rfl rfl rfl rfl)).trans ?_
  rw[agX,show((a++b).filterMap ((λd=>match d with|D.int x=>some (qm x)|_=>none) ∘ D.int))=(a++b).map qm from nj qm _]
 .let#[h1,h2]:=hw x rm;refine bA (MS (gX (lA rfl rfl (Fx h1 h2))) (by have:=g.few x;lia) (λy my=>nL rfl rfl (aQ rfl rfl ?_)));rw[ae6,show decide (y∈adds [] (a++b))=decide (y∈a++b) from aiz.mpr (by rw[LP];simp)]
def Tn(g:GoodC Sl C)(hl:a.length+b.length<=100)(hb:Row C (a++b))(h:fu [] (eV C (a++b))=some v):aaE [obj C,iL a,iL b]=some (cM (iE (nz v))):=
 bq rfl (cu (cN (bP (ps:=[(obj C,.sh []),(iL (a++b),.own)]) (by rw[aM,aM];show mD _ (mD (e2 gQ _ _ [some (obj C,.sh []),some (iL a,.sh []),some (iL b,.sh [])]) _)=_;rw[Q8 rfl rfl (by lia)];rfl) (zL g hb (by rw[aa3];lia) h).1) MD))
def JN(h:∀k,gV u k=gV v k)(E:List Ed):bad u E=bad v E:=by
 unfold bad
 congr 1
 refine aiX λp _=>?_
 unfold oz;have:=h p.1;unfold gV at this;rw[this]
def N8(g:GoodC Sl C)(h1:1<=m)(h2:m<=(C.length:Int)):Le [obj C,cM v,.int m]=some (.bl (fU C v m)):=
 bq rfl (cu (aQ (bP (ps:=[(cM v,.sh []),(eL (cG C m),.own)]) (by rw[aM,aM];show mD _ (mD (bN _ _ _ _ _ [some (obj C,.sh []),some (cM v,.sh []),some (.int m,.sh [])]) _)=_;rw[lA rfl rfl (xW h1 h2)];rfl) (D0 (g.ed m).ed (by lia) D.lst rfl)) rfl acR))
def acM{L:List Ch}{m:Int}(h1:1<=m)(h2:m<=L.length):AZ [obj L,.int m]=some (.int (ch L m).1):=
 bq rfl (cu (aQ (lA rfl rfl (DZ h1 h2)) rfl rfl))
abbrev kf:EF:=ia (ao (e1 Dn (bN "Changes" "rank_of" AZ (aj 1) (ao (aj 0) aA))) (ao (aj 0) aA))
abbrev pr(C:List Ch):Int->Int×Int:=uI kf (obj C)
def HV{C:List Ch}{x:Int}(h1:1<=x)(h2:x<=C.length):qU kf (obj C) x=some (-(ch C x).1,x):=by
 unfold qU;have e:e1 Dn (bN "Changes" "rank_of" AZ (aj 1) (ao (aj 0) aA)) [some (.int x,.own),some (obj C,.sh [])]=some (.int (-(ch C x).1),.own):=cN (lA rfl rfl (acM h1 h2)) rfl;show(match ia _ _ with|some (.tup [.int a,.int b],_)=>some (a,b)|_=>none)=_;rw[m6,aM,e];rfl
def Bf(h:Row C ns)(hn:ns.Nodup):(ns.map (pr C)).Nodup:=by
 have p_:∀x∈ns,pr C x=(-(ch C x).1,x):=λx m=>by
  show(qU kf (obj C) x).getD _=_;rw[HV (h x m).1 (h x m).2];rfl
 unfold List.Nodup;rw[ain];refine hn.imp_of_mem λ{a b} ma mb ne e=>ne ?_
 rw[p_ a ma,p_ b mb] at e;apply(Prod.mk.injEq .. ▸ e).2
def L5(h:Row C ns)(hn:ns.Nodup)(hl:ns.length<64):Qk [obj C,iL ns]=some (iL (ir (pr C) ns)):=by
 refine bq rfl (cu ?_);show(match eF (ns.map D.int) with|some ns=>if ns.length<64/\(ns.map (pr C)).Nodup/\∀n∈ns,(qU kf (obj C) n).isSome=true then some (D.lst ((ir (pr C) ns).map D.int),Tag.own) else none|none=>none)=_;rw[sU];dsimp only;rw[if_pos #[hl,Bf h hn,λx m=>by rw[HV (h x m).1 (h x m).2];rfl]];rfl
def O4:Option Int->D
 |none=>.aC
 |some x=>.int x
def x8:SF:=dN (tV (bC Le (ao (aj 0) (ao (aj 1) (ao (aj 3) aA))))) (uq 3) eO
theorem N2(g:GoodC Sl C):∀{l} {s3},Row C l->match l.find? (fU C v) with
  |some x=>dD (gN 3) (.sh []) x8 (l.map D.int) [some (obj C,.sh []),some (cM v,.sh []),some (N,.sh []),s3]=some (.rt (.int x))
  |none=>∃t3,dD (gN 3) (.sh []) x8 (l.map D.int) [some (obj C,.sh []),some (cM v,.sh []),some (N,.sh []),s3]=some (.nx [some (obj C,.sh []),some (cM v,.sh []),some (N,.sh []),t3])
 |[],s3,_=>#[s3,rfl]
 |x::l,s3,h=>by
  let#[h1,h2]:=h x aah;have q:tV (bC Le (ao (aj 0) (ao (aj 1) (ao (aj 3) aA)))) [some (obj C,.sh []),some (cM v,.sh []),some (N,.sh []),some (.int x,.sh [])]=some (fU C v x):=bA (bP rfl (N8 g h1 h2));have ih:=N2 g (v:=v) (N:=N) (s3:=some (.int x,.sh [])) λy m=>h y (aab _ m)
  rw[adV];cases hf:fU C v x with
  |true=>
   rw[hf] at q;apply Nu (bf:=[some (obj C,.sh []),some (cM v,.sh []),some (N,.sh []),some (.int x,.sh [])]) rfl (by unfold x8;rw[iO,q];rfl)
  |false=>
   rw[hf] at q;have e:=jx (g:=gN 3) (t:=.sh []) (f:=x8) (ds:=l.map D.int) (Y:=[some (obj C,.sh []),some (cM v,.sh []),some (N,.sh []),s3]) (bf:=[some (obj C,.sh []),some (cM v,.sh []),some (N,.sh []),some (.int x,.sh [])]) rfl (by unfold x8;rw[iO,q];rfl);dsimp only;rw[aaB,e];apply ih
def afA(g:GoodC Sl C)(h:Row C ns)(hn:ns.Nodup)(hl:ns.length<64):AK [obj C,cM v,iL ns]=some (O4 ((ir (pr C) ns).find? (fU C v))):=by
 have hi:fG (bC Qk (ao (aj 0) (ao (aj 2) aA))) [some (obj C,.sh []),some (cM v,.sh []),some (iL ns,.sh []),none]=some ((ir (pr C) ns).map D.int,.own):=gX (bP rfl (L5 h hn hl));have lp:=N2 g (v:=v) (N:=iL ns) (l:=ir (pr C) ns) (s3:=none) λx m=>h x ((qy ns).mem_iff.mp m)
 refine bq rfl ?_;cases e:(ir (pr C) ns).find? (fU C v) with
 |none=>
  rw[e] at lp;let#[t3,lp]:=lp;apply sq (lM hi lp) rfl
 |some x=>
  rw[e] at lp;apply jX (Py hi lp)
theorem OP:∀{row} {v v'} {m},fu v (eV C row)=some v'->bad v' (cG C m)=[]->fu v (eV C (row++[m]))=some (iu v' (cG C m))
 |[],v,v',m,h,hb=>by
  ext h;show(if bad v (cG C m)=[] then fu (iu v (cG C m)) [] else none)=_;rw[if_pos hb];rfl
 |x::r,v,v',m,h,hb=>by
  have h:(if bad v (cG C x)=[] then fu (iu v (cG C x)) (eV C r) else none)=some v':=h;show(if bad v (cG C x)=[] then fu (iu v (cG C x)) (eV C (r++[m])) else none)=_
  by_cases sL:bad v (cG C x)=[]
  .rw[if_pos sL] at h ⊢;apply OP h hb
  .rw[abo sL] at h;ext h
def J7(h1:c Y=some true)(h2:b Y=some (.nx Y')):gW c b (n+1) Y=gW c b n Y':=by rw[gW,h1];dsimp only;rw[h2]
def TN(h1:c Y=some false):gW c b (n+1) Y=some (.nx Y):=by rw[gW,h1]
def afK(h1:c Y=some true)(h2:b Y=some (.rt d)):gW c b (n+1) Y=some (.rt d):=by rw[gW,h1];dsimp only;rw[h2]
abbrev cF:TF:=tV (e2 oLt (e1 fW (aj 5)) (aj 4))
abbrev bF:SF:=(cz (dw 8 (bC AK (ao (aj 0) (ao (aj 7) (ao (bC AE (ao (aj 0) (ao (aj 1) (ao (aj 5) (ao (aj 6) aA))))) aA))))) (cz (dN (tV (e2 jv (aj 8) (eC .aC))) (uq 5) eO) (cz (mH 5 (aj 8)) (cz (zf 6 (aj 8)) (jM (fG (bN "Changes" "edits_of" yu (aj 0) (ao (aj 8) aA))) (gT (gj (gN 9) (gj (gN 10) (gj (gN 11) n_)))) (tO 7 (aj 9) (aj 11)))))))
def rF(C:List Ch)(ln ld wt:List Int)(w:Int)(told left:List Int)(u:kY)(s8 s9 mS pS:Slot):aU:=[some (obj C,.sh []),some (iL ln,.sh []),some (iL ld,.sh []),some (iL wt,.sh []),some (.int w,.sh []),some (iL told,.own),some (iL left,.own),some (cM u,.own),s8,s9,mS,pS]
def p_(h1:1<=x)(h2:x<=(C.length:Int)):pr C x=(-(ch C x).1,x):=by
 show(qU kf (obj C) x).getD _=_;rw[HV h1 h2];rfl
def O9(h1:1<=x)(h2:x<=(C.length:Int))(h:ch C x=(r,[],[])):iM C there x=true:=by
 unfold iM;rw[<- ko h1 h2,h];rfl
def Tq(h:ch C x=(r,[],[])):fU C v x=true:=by
 unfold fU cG;rw[h];rfl
def ah1(hr:Row C left)(h:∀x∈left,ch C x=(r,[],[]))(s:left.Pairwise (· < ·)):left=ir (pr C) left:=
 Q5 (.refl _) (Bf hr (s.imp λh=>by lia)) (s.imp_of_mem λ{a b} ma mb q=>by
  rw[p_ (hr a ma).1 (hr a ma).2,p_ (hr b mb).1 (hr b mb).2,h a ma,h b mb];apply aaC (.inr #[rfl,q]))
def Nc(hr:Row C left)(h:∀x∈left,ch C x=(r,[],[]))(s:left.Pairwise (· < ·)):(ir (pr C) (left.filter (iM C there))).find? (fU C v)=left.head? :=by
 rw[aiw.mpr λx m=>O9 (hr x m).1 (hr x m).2 (h x m),<- ah1 hr h s];cases left with
 |nil=>rfl
 |cons y l=>rw[ag6 (Tq (h y aah))];rfl
structure Fl(C:List Ch)(ln told left:List Int)(w:Int)(ex:List Int):Prop where
 nd:ex.Nodup
 sub:∀x∈ex,x∈left
 le:((told++ex).length:Int)<=w\/ex=[]
 fst:∀x r,ex=x::r->∃v,fu [] (eV C (ln++told))=some v/\iM C (ln++told) x=true/\fU C v x=true
 pl:∀r,(∀x∈left,ch C x=(r,[],[]))->left.Pairwise (· < ·)->ex=left.take (w-(told.length:Int)).toNat
 run:∃v,fu [] (eV C (ln++(told++ex)))=some v/\(w<=((told++ex).length:Int)\/∀x∈left,x∉ex->iM C (ln++(told++ex)) x=true->fU C v x=false)
def afY(g:GoodC Sl C):∀{n} {told left} {u v} {s8 s9 mS pS},Row C left->left.Nodup->left.length<64->ln.length+told.length+left.length<=1000->fu [] (eV C (ln++told))=some v->(∀k,gV u k=gV v k)->Kb Sl u->left.length<n->
  ∃ex,cz (gW cF bF n) (uq 5) (rF C ln ld wt w told left u s8 s9 mS pS)=some (.rt (iL (told++ex)))/\Fl C ln told left w ex:=by
 intro n
 induction n with
 |zero=>intros;omega
 |succ n ih=>
  intro told left u v s8 s9 mS pS hr nd hl hs hv hu ku hn;have c1:cF (rF C ln ld wt w told left u s8 s9 mS pS)=some (decide ((told.length:Int)<w)):=bA (aQ (cN rfl (by show some (D.int (told.map D.int).length)=_;rw[List.length_map])) rfl rfl)
  by_cases hw:(told.length:Int)<w
  .rw[aaC hw] at c1;have ef:fU C u=fU C v:=funext λx=>by unfold fU;rw[JN hu]
   have q1:bC AK (ao (aj 0) (ao (aj 7) (ao (bC AE (ao (aj 0) (ao (aj 1) (ao (aj 5) (ao (aj 6) aA))))) aA))) (rF C ln ld wt w told left u s8 s9 mS pS)=some (O4 ((ir (pr C) (left.filter (iM C (ln++told)))).find? (fU C v)),.own):=by
    refine bP (ps:=[(obj C,.sh []),(cM u,.sh [7]),(iL (left.filter (iM C (ln++told))),.own)]) ?_ ?_
    .rw[aM,aM,aM,bP rfl (Iw g (by lia) hr (by lia))];rfl
    .show AK [obj C,cM u,_]=_;rw[afA g (λx m=>hr x (adh.mp m).1) (nd.sublist afr) (aih (ad9 _ _) hl),ef]
   have pm:=λx=>(qy (pr:=pr C) (left.filter (iM C (ln++told)))).mem_iff (a:=x)
   cases hb:(ir (pr C) (left.filter (iM C (ln++told)))).find? (fU C v) with
   |none=>
    rw[hb] at q1;refine#[[],jX ((afK c1 (b7 q1 (jX rfl))).trans (by rw[acw])),.nil,(λx m=>nomatch m),.inr rfl,(λx r e=>nomatch e),(λr p s=>by
     rw[Nc hr p s] at hb;cases left with
     |nil=>rw[List.take_nil]
     |cons y l=>ext hb),v,by rw[acw];apply hv,.inr λx m _ hf=>?_]
    rw[acw] at hf;have:=ahs.mp hb x ((pm x).mpr (adh.mpr #[m,hf]));simpa using this
   |some x=>
    rw[hb] at q1;have mf:=(pm x).mp (ahf hb);have m:=(adh.mp mf).1;have f:=aeA.mp (aiS hb);let#[h1,h2]:=hr x m;have hE:=(g.ed x).ed.ln;have hel:=List.length_erase_of_mem m;have hp:=List.length_pos_of_mem m;let#[t9,NK,Sx,lp]:=DI (g:=gT (gj (gN 9) (gj (gN 10) (gj (gN 11) n_)))) (f:=tO 7 (aj 9) (aj 11)) (λv x' y z=>rF C ln ld wt w (told++[x]) (left.erase x) v (some (.int x,.own)) x' y z) (λ_ _ _ _ _=>rfl) (λv p h=>Pj rfl rfl rfl h) (E:=cG C x) (v:=u) (by have:=ku.len;lia);have st:bF (rF C ln ld wt w told left u s8 s9 mS pS)=some (.nx (rF C ln ld wt w (told++[x]) (left.erase x) (iu u (cG C x)) (some (.int x,.own)) t9 NK Sx)):=by
     refine b7 q1 (bZ rfl ?_);refine sq ((J5 rfl rfl (size_le (by lia))).trans rfl) ?_;refine sq ((X0 rfl rfl m).trans rfl) ?_;apply lM (gX (lA rfl rfl (xW h1 h2))) lp
    let#[ex,e,F]:=ih (told:=told++[x]) (s8:=some (.int x,.own)) (s9:=t9) (mS:=NK) (pS:=Sx) (λy my=>hr y (List.mem_of_mem_erase my)) (nd.erase x) (by lia) (by rw[aa3,ac7];lia) (by rw[<- ae4];apply OP hv f) (λk=>by
     let#[a1,a2]:=IZ (cG C x) u k (g.ed x).nd;let#[b1,b2]:=IZ (cG C x) v k (g.ed x).nd;unfold gV
     by_cases mk:k∈(cG C x).map (·.1)
     .let#[p,mp,rfl]:=acg.mp mk;rw[a1 p mp rfl,b1 p mp rfl]
     .rw[a2 mk,b2 mk];apply hu k) (ku.iu (g.ed x)) (by lia)
    have ea:told++x::ex=told++[x]++ex:=by rw[ae4];rfl
    refine#[x::ex,?_,ab6.mpr #[λmx=>(nd.mem_erase_iff.mp (F.sub x mx)).1 rfl,F.nd],λy my=>(aaO.mp my).elim (λe=>e ▸ m) λmy=>List.mem_of_mem_erase (F.sub y my),.inl ?_,(λy r e=>by ext e;apply#[v,hv,(adh.mp mf).2,aiS hb]),(λr p s=>by
     rw[Nc hr p s] at hb;cases left with
     |nil=>ext hb
     |cons y l=>
      ext hb;have k:=F.pl r;rw[List.erase_cons_head,aa3,ac7] at k;rw[show(w-(told.length:Int)).toNat=(w-((told.length+1:Nat):Int)).toNat+1 by lia,List.take_succ_cons];apply congrArg (x::·) (k (λz m=>p z (aab _ m)) (aew.mp s).2)),?_]
    .rw[jy,J7 c1 st,<- jy,ea];apply e
    .rw[ea];rcases F.le with h|h
     .exact h
     .rw[h,acw,aa3,ac7];lia
    .rw[ea];let#[v',r1,r2]:=F.run;refine#[v',r1,r2.imp id λr y my ny=>?_];apply r y (nd.mem_erase_iff.mpr #[λe=>ny (e ▸ aah),my]) λq=>ny (aab _ q)
  .rw[aa8 hw] at c1;apply#[[],(sq (TN c1) rfl).trans (by rw[acw];rfl),.nil,(λx m=>nomatch m),.inr rfl,(λx r e=>nomatch e),(λr p s=>by rw[show(w-(told.length:Int)).toNat=0 by lia,List.take_zero]),v,by rw[acw];apply hv,.inl (by rw[acw];lia)]
def Xn(g:GoodC Sl C)(hb:Row C (ln++ld))(hr:Row C wt)(nd:wt.Nodup)(hw:wt.length<64)(hl:ln.length+ld.length<=100)(hv:fu [] (eV C (ln++ld))=some v):∃ex,Ek [obj C,iL ln,iL ld,iL wt,.int w]=some (iL (ld++ex))/\Fl C ln ld wt w ex:=by
 have kv:=(zL g hb (by rw[aa3];lia) hv).2;have kd:Kb Sl (iE (nz v)):=#[g.sl,Yb _,λk m=>kv.ks k (rK.mp (by
  let#[w,e]:=rK.mpr m;rw[RQ (by rw[Ox];apply QF kv.nd)] at e;unfold nz at e;rw[Kr] at e
  split at e
  .rename_i mk;have:=QG.mp mk;cases h:bR v k with
   |none=>rw[h] at this;apply absurd rfl this
   |some y=>apply#[y,rfl]
  .cases e))]
 let#[ex,e,F]:=afY g (n:=4000) hr nd hw (by lia) hv (HC kv.nd) kd (by lia);apply#[ex,bq rfl (b7 (cN rfl vU) (b7 (cN rfl vU) (b7 (bP rfl (Tn g hl hb hv)) e))),F]
def best:Int×Int->List (Int×Int)->Int×Int
 |p,[]=>p
 |p,q::r=>best (if p.2-p.1<q.2-q.1 then q else p) r
def pairs(f:List Int):List (Int×Int):=f.zip f.tail
def mid(f:List Int):Int:=let p:=best (f.headD 0,f.headD 0) (pairs f);(p.1+p.2) / 2
theorem AR:∀(l:List (Int×Int)) (p:Int×Int),best p l=p\/best p l∈l
 |[],p=>.inl rfl
 |q::r,p=>by
  unfold best
  by_cases h:p.2-p.1<q.2-q.1
  .rw[if_pos h];rcases AR r q with e|e
   .rw[e];apply .inr aah
   .exact .inr (aab _ e)
  .rw[abo h];rcases AR r p with e|e
   .exact .inl e
   .exact .inr (aab _ e)
theorem Df:∀(l:List (Int×Int)) (p:Int×Int),p.2-p.1<=(best p l).2-(best p l).1/\∀q∈l,q.2-q.1<=(best p l).2-(best p l).1
 |[],p=>#[Int.le_refl _,λq m=>nomatch m]
 |x::r,p=>by
  unfold best
  by_cases h:p.2-p.1<x.2-x.1
  .rw[if_pos h];let#[h1,h2]:=Df r x;refine#[by lia,λq m=>?_];rcases aaO.mp m with rfl|m
   .exact h1
   .exact h2 q m
  .rw[abo h];let#[h1,h2]:=Df r p;refine#[h1,λq m=>?_];rcases aaO.mp m with rfl|m
   .lia
   .exact h2 q m
theorem E_:∀(r:List Int) (a:Int),(∀q∈pairs (a::r),q.2-q.1<=1)->(a::r).getLastD 0<=a+r.length
 |[],a,_=>by simp
 |b::r,a,h=>by
  have h1:b-a<=1:=h (a,b) (by unfold pairs;apply aah);have h2:=E_ r b λq m=>h q (by unfold pairs at m ⊢;apply aab _ m)
  have e:(a::b::r).getLastD 0=(b::r).getLastD 0:=by simp[List.getLastD]
  rw[e,acF]
  lia
abbrev fence(ws:List Int)(e:Int):List Int:=0::(ws++[e])
def D3(m:q∈pairs f):q.1∈f/\q.2∈f:=by
 unfold pairs at m;let#[h1,h2]:=List.of_mem_zip m;apply#[h1,List.mem_of_mem_tail h2]
def acD(hw:∀x∈ws,1<=x)(hl:(ws.length:Int)<e-1):1<=mid (fence ws e):=by
 have hf:∀x∈fence ws e,0<=x:=λx m=>by
  rcases aaO.mp m with rfl|m
  .exact Int.le_refl _
  .rcases abC.mp m with m|m
   .have:=hw x m;lia
   .cases aav.mp m;lia
 obtain⟨q,m,hq⟩:∃q∈pairs (fence ws e),2<=q.2-q.1:=by
  refine ahm λhn=>?_
  have:=E_ (ws++[e]) 0 λq m=>by
   refine ahm λh=>hn #[q,m,by lia]
  have q1:(0::(ws++[e])).getLastD 0=e:=by rw[show(0::(ws++[e]))=(0::ws)++[e] from rfl,List.getLastD_concat]
  rw[q1,aa3,ac7] at this
  lia
 have hb:=(Df (pairs (fence ws e)) ((fence ws e).headD 0,(fence ws e).headD 0)).2 q m;unfold mid;dsimp only;rcases AR (pairs (fence ws e)) ((fence ws e).headD 0,(fence ws e).headD 0) with h|h
 .rw[h] at hb;dsimp only at hb
  lia
 .let#[h1,h2]:=D3 h;have:=hf _ h1
  lia
def L6(p:Int×Int):D:=.tup [.int p.1,.int p.2]
def rM(f:List Int)(l h:Int)(t1 t2:Tag)(s3 s4:Slot):aU:=[some (.lst (f.map D.int),.sh []),some (.int l,t1),some (.int h,t2),s3,s4]
abbrev bM:SF:=dN (tV (e2 qk (e2 lI (aj 4) (aj 3)) (e2 lI (aj 2) (aj 1)))) (cz (dw 1 (aj 3)) (dw 2 (aj 4))) eO
abbrev gM:GF:=gT (gj (gN 3) (gj (gN 4) n_))
theorem Ii:∀(ps:List (Int×Int)) (p:Int×Int) (t1 t2:Tag) (s3 s4:Slot),∃t1' Zv xh s4',dD gM (.sh []) bM (ps.map L6) (rM f p.1 p.2 t1 t2 s3 s4)=some (.nx (rM f (best p ps).1 (best p ps).2 t1' Zv xh s4'))
 |[],p,t1,t2,s3,s4=>#[t1,t2,s3,s4,rfl]
 |q::r,p,t1,t2,s3,s4=>by
  have hc:tV (e2 qk (e2 lI (aj 4) (aj 3)) (e2 lI (aj 2) (aj 1))) (rM f p.1 p.2 t1 t2 (some (.int q.1,.own)) (some (.int q.2,.own)))=some (decide (p.2-p.1<q.2-q.1)):=rfl
  by_cases h:p.2-p.1<q.2-q.1
  .have hb:bM (rM f p.1 p.2 t1 t2 (some (.int q.1,.own)) (some (.int q.2,.own)))=some (.nx (rM f q.1 q.2 (.sh [3]) (.sh [4]) (some (.int q.1,.own)) (some (.int q.2,.own)))):=by
    unfold bM;rw[iO,hc,aaC h,Pu];rfl
   let#[a,b,c,d,hh]:=Ii r q (.sh [3]) (.sh [4]) (some (.int q.1,.own)) (some (.int q.2,.own));refine#[a,b,c,d,(jx rfl hb).trans ?_];unfold best;rw[if_pos h];apply hh
  .have hb:bM (rM f p.1 p.2 t1 t2 (some (.int q.1,.own)) (some (.int q.2,.own)))=some (.nx (rM f p.1 p.2 t1 t2 (some (.int q.1,.own)) (some (.int q.2,.own)))):=by
    unfold bM;rw[iO,hc,aa8 h,Mq];rfl
   let#[a,b,c,d,hh]:=Ii r p t1 t2 (some (.int q.1,.own)) (some (.int q.2,.own));refine#[a,b,c,d,(jx rfl hb).trans ?_];unfold best;rw[abo h];apply hh
def adP(a:Int)(r:List Int):l_ (some 1) none (.lst ((a::r).map D.int))=some (.lst (r.map D.int)):=by
 show(if aP ((a::r).map D.int)=true then some (D.lst (cutD ((a::r).map D.int) (some 1) none)) else none)=_;rw[if_pos (fm _)];have:cutD ((a::r).map D.int) (some 1) none=r.map D.int:=by
  unfold cutD;have e:HT.g8 ((a::r).map D.int).length 0 (some 1)=1:=by
   have q:=HT.yz ((a::r).map D.int).length 0 1;rw[show((1:Nat):Int)=1 from rfl] at q;rw[q,List.length_map,acF];lia
  rw[HT.JU,e,aaB,List.drop_succ_cons,List.drop_zero,acF,Nat.add_sub_cancel,List.take_length]
 rw[this]
def ZU(a:Int)(r:List Int):xx [.lst ((a::r).map D.int)]=some (.int (mid (a::r))):=by
 refine bq rfl ?_;show GV [some (.lst ((a::r).map D.int),.sh []),none,none,none,none]=_;unfold GV;have q1:dw 1 (e2 fC (aj 0) (eC (.int 0))) [some (.lst ((a::r).map D.int),.sh []),none,none,none,none]=some (.nx [some (.lst ((a::r).map D.int),.sh []),some (.int a,.own),none,none,none]):=by
  have hx:fC (.lst ((a::r).map D.int)) (.int 0)=some (.int a):=uF (by rw[RM (by lia) (by rw[acF];lia)];rfl) rfl;rw[Bq,kM];show BB 1 _ ((fC (.lst ((a::r).map D.int)) (.int 0)).map _)=_;rw[hx];rfl
 have q2:dw 2 (aj 1) [some (.lst ((a::r).map D.int),.sh []),some (.int a,.own),none,none,none]=some (.nx (rM (a::r) a a .own (.sh [1]) none none)):=rfl;have hz:qG (aj 0) (e1 (l_ (some 1) none) (aj 0)) (rM (a::r) a a .own (.sh [1]) none none)=some ((pairs (a::r)).map L6,.sh []):=by
  unfold qG;have v0:aj 0 (rM (a::r) a a .own (.sh [1]) none none)=some (.lst ((a::r).map D.int),.sh []):=rfl;have v1:e1 (l_ (some 1) none) (aj 0) (rM (a::r) a a .own (.sh [1]) none none)=some (.lst (r.map D.int),.own):=by
   rw[uJ,v0];show(l_ (some 1) none (.lst ((a::r).map D.int))).map _=_;rw[adP];rfl
  rw[v0,v1];dsimp only;rw[if_pos (by rw[fm,fm];rfl)];refine congrArg some (Prod.ext ?_ rfl);rw[List.zip_map,adK];rfl
 let#[t1,t2,s3,s4,hl]:=Ii (pairs (a::r)) (a,a) .own (.sh [1]) none none;have hf:jM (qG (aj 0) (e1 (l_ (some 1) none) (aj 0))) gM bM (rM (a::r) a a .own (.sh [1]) none none)=some (.nx (rM (a::r) (best (a,a) (pairs (a::r))).1 (best (a,a) (pairs (a::r))).2 t1 t2 s3 s4)):=AQ hz hl;rw[jy,q1,oJ,jy,q2,oJ,jy];rw[hf,oJ];unfold mid;rw[show((a::r).headD 0,(a::r).headD 0)=(a,a) from rfl];generalize best (a,a) (pairs (a::r))=p;have v1:aj 1 (rM (a::r) p.1 p.2 t1 t2 s3 s4)=some (.int p.1,D8 1 t1):=rfl;have v2:aj 2 (rM (a::r) p.1 p.2 t1 t2 s3 s4)=some (.int p.2,D8 2 t2):=rfl;rw[Hi,kM,kM,v1,v2,zU,RP,Q2,JH,zU,Zh (by lia) (by lia)];rfl
def j_:Option Int->D
 |none=>.aC
 |some b=>.int b
def endOf(size:Int):Option Int->Int
 |none=>size+1
 |some b=>b
def pick(size:Int)(bad:Option Int)(e:Int)(ws:List Int):Int:=if(bad.isNone&&!(ws.any (· == size)))=true then size else mid (fence ws e)
def ji(size:Int)(bad:Option Int)(e:Int)(ws:List Int):List Int:=e_ (ws++[pick size bad e ws])
def lim(e aW:Int):Int:=if e-1<aW then e-1 else aW
def jV(size:Int)(bad:Option Int)(e aW:Int):Nat->List Int->List Int
 |0,ws=>ws
 |n+1,ws=>if(ws.length:Int)<lim e aW then jV size bad e aW n (ji size bad e ws) else ws
def Ay{bad:Option Int}:(ji size bad e ws).length=ws.length+1:=by unfold ji;rw[Fz,aa3];rfl
def SA(b:Option Int):pK (j_ b)=b.isNone:=by ext b<;>rfl
abbrev cW:TF:=tV (e2 oLt (e1 fW (aj 5)) (e2 Bm (aj 3) (e2 lI (aj 4) (eC (.int 1)))))
abbrev bW:SF:=cz (dN (l9 (tV (e2 jv (aj 1) (eC .aC))) (tV (e2 (ju true) (aj 0) (aj 5)))) (mH 5 (aj 0)) (mH 5 (bC xx (ao (e2 gQ (e2 gQ (eZ (ao (eC (.int 0)) aA)) (aj 5)) (eZ (ao (aj 4) aA))) aA)))) (dw 5 (e1 m7 (aj 5)))
def CI(t:Tag):Prop:=t=.own\/t=.sh []
def rW(size:Int)(bad:Option Int)(kd:D)(aW e:Int)(t4:Tag)(ws:List Int):aU:=[some (.int size,.sh []),some (j_ bad,.sh []),some (kd,.sh []),some (.int aW,.sh []),some (.int e,t4),some (.lst (ws.map D.int),.own)]
section
variable{size aW e:Int}{bad:Option Int}
def Rv:cW (rW size bad kd aW e t4 ws)=some (decide ((ws.length:Int)<lim e aW)):=by
 show some (decide (((ws.map D.int).length:Int)<(if e-1<aW then e-1 else aW)))=_;rw[List.length_map];rfl
def ag8:(tV (e2 (ju true) (aj 0) (aj 5))) (rW size bad kd aW e t4 ws)=some (!(ws.any (· == size))):=by
 rw[yE,kM];show Ev.kV ((ju true (.int size) (.lst (ws.map D.int))).map _)=_;rw[yK];rfl
def Ws:(l9 (tV (e2 jv (aj 1) (eC .aC))) (tV (e2 (ju true) (aj 0) (aj 5)))) (rW size bad kd aW e t4 ws)=some (bad.isNone&&!(ws.any (· == size))):=by
 refine Mf ?_ ag8;show some (pK (j_ bad))=_;rw[SA]
def Mx(h:CI t4)(x:Int):cP (rW size bad kd aW e t4 ws) 5 (.lst ((ws++[x]).map D.int))=rW size bad kd aW e t4 (ws++[x]):=by
 rcases h with rfl|rfl<;>rfl
def adS(hl:ws.length<63):(e2 gQ (e2 gQ (eZ (ao (eC (.int 0)) aA)) (aj 5)) (eZ (ao (aj 4) aA))) (rW size bad kd aW e t4 ws)=some (.lst ((fence ws e).map D.int),.own):=by
 have h1:gQ (.lst (([0]:List Int).map D.int)) (.lst (ws.map D.int))=some (.lst (([0]++ws).map D.int)):=zm (by unfold PySem.sizeLine;show 1+ws.length<=_;lia);have h2:gQ (.lst (([0]++ws).map D.int)) (.lst (([e]:List Int).map D.int))=some (.lst (([0]++ws++[e]).map D.int)):=zm (by unfold PySem.sizeLine;rw[aa3];show 1+ws.length+1<=_;lia);rw[kM,kM];show k2 gQ ((gQ (.lst (([0]:List Int).map D.int)) (.lst (ws.map D.int))).map _) _=_;rw[h1,Q2];show(gQ (.lst (([0]++ws).map D.int)) (.lst (([e]:List Int).map D.int))).map _=_;rw[h2];rfl
def Xx(ht:CI t4)(hl:ws.length<63):bW (rW size bad kd aW e t4 ws)=some (.nx (rW size bad kd aW e t4 (ji size bad e ws))):=by
 have hz:ws.length<PySem.sizeLine:=by unfold PySem.sizeLine;lia
 have h1:dN (l9 (tV (e2 jv (aj 1) (eC .aC))) (tV (e2 (ju true) (aj 0) (aj 5)))) (mH 5 (aj 0)) (mH 5 (bC xx (ao (e2 gQ (e2 gQ (eZ (ao (eC (.int 0)) aA)) (aj 5)) (eZ (ao (aj 4) aA))) aA))) (rW size bad kd aW e t4 ws)=some (.nx (rW size bad kd aW e t4 (ws++[pick size bad e ws]))):=by
  rw[iO,Ws];unfold pick
  by_cases hb:(bad.isNone&&!(ws.any (· == size)))=true
  .rw[hb,Pu,if_pos rfl,J5 rfl rfl hz,Mx ht]
  .have wU:(bad.isNone&&!(ws.any (· == size)))=false:=by simpa using hb
   have hm:bC xx (ao (e2 gQ (e2 gQ (eZ (ao (eC (.int 0)) aA)) (aj 5)) (eZ (ao (aj 4) aA))) aA) (rW size bad kd aW e t4 ws)=some (.int (mid (fence ws e)),.own):=by
    rw[s_call,aM,adS hl,xM,Dv,Pb];simp only[aaB,aiY];have:=ZU 0 (ws++[e]);rw[aaB] at this;rw[this];rfl
   rw[wU,Mq,abo aa2,J5 hm rfl hz,Mx ht]
 unfold bW;rw[jy,h1,oJ,Bq,uJ];show BB 5 _ ((m7 (.lst ((ws++[pick size bad e ws]).map D.int))).map _)=_;rw[adu (by rw[aa3];show ws.length+1<64;lia)];rfl
theorem Rh(ht:CI t4)(hh:aW<=60):∀(n:Nat) (ws:List Int) (m:Nat),aW-ws.length<=n->n<m->gW cW bW m (rW size bad kd aW e t4 ws)=some (.nx (rW size bad kd aW e t4 (jV size bad e aW n ws)))
 |_,_,0,_,h=>absurd h (Nat.not_lt_zero _)
 |0,ws,m+1,h,_=>by
  have:¬((ws.length:Int)<lim e aW):=by unfold lim;split<;>lia
  rw[gW,Rv,aa8 this];rfl
 |n+1,ws,m+1,h,hm=>by
  rw[gW,Rv];unfold jV
  by_cases hc:(ws.length:Int)<lim e aW
  .have h1:(ws.length:Int)<aW:=by unfold lim at hc;split at hc<;>lia
   rw[aaC hc,if_pos hc];dsimp only;rw[Xx ht (by lia)];apply Rh ht hh n (ji size bad e ws) m (by rw[Ay];lia) (by lia)
  .rw[aa8 hc,abo hc]
end
def kh(e:Int)(ks:List Int):List Int:=ks.filter λk=>decide (k<e)
def kI(e:Int):D->Option D
 |.int i=>if decide (i<e)=true then some (.int i) else none
 |_=>none
theorem KP(e:Int):∀ks:List Int,(ks.map D.int).filterMap (kI e)=(kh e ks).map D.int
 |[]=>rfl
 |k::r=>by
  unfold kh;rw[aaB,afi,ag3];have hk:kI e (D.int k)=if decide (k<e)=true then some (D.int k) else none:=rfl
  by_cases h:decide (k<e)=true
  .rw[hk,if_pos h,if_pos h,aaB];dsimp only;rw[KP e r];rfl
  .rw[hk,abo h,abo h];apply KP e r
def Zx{js:List (Option Nat)}(hi:it Y=some (ks.map D.int,t))(hj:jA js Y=[none,some (.int e,.sh [])])(hl:ks.length<64):
  eW js it (gN 0) (tV (e2 oLt (aj 0) (aj 1))) (aj 0) Y=some (.lst ((kh e ks).map D.int),.own):=by
 have hc:=kH (g:=gN 0) (tt:=tV (e2 oLt (aj 0) (aj 1))) (te:=aj 0) (k:=kI e) hi (by rw[List.length_map];unfold PySem.sizeLine;lia) (λd m=>by
  let#[i,mi,rfl]:=acg.mp m;rw[hj];show _=some (if decide (i<e)=true then some (D.int i) else none)
  by_cases h:decide (i<e)=true
  .rw[if_pos h];refine v9 rfl ?_ rfl rfl;show some (decide (i<e))=_;rw[h]
  .rw[abo h];refine Bd rfl ?_;show some (decide (i<e))=_;rw[ahe.mpr h])
 rw[hc,KP]
def adU{bad:Option Int}(h0:aj 0 Y=some (.int size,.sh []))(h1:aj 1 Y=some (j_ bad,.sh [])):∃t,CI t/\pM (tV (e2 jv (aj 1) (eC .aC))) (e2 f9 (aj 0) (eC (.int 1))) (aj 1) Y=some (.int (endOf size bad),t):=by
 have hc:tV (e2 jv (aj 1) (eC .aC)) Y=some bad.isNone:=by
  rw[yE,kM,h1,JH,zU,UB,SA];rfl
 cases bad with
 |none=>apply#[.own,.inl rfl,by rw[QS (by rw[hc];rfl),kM,h0,JH,zU,RP];rfl]
 |some b=>apply#[.sh [],.inr rfl,by rw[Ni (by rw[hc];rfl),h1];rfl]
def W(size:Int)(bad:Option Int)(ks:List Int)(aW:Int):List Int:=jV size bad (endOf size bad) aW 100 (kh (endOf size bad) ks)
def Z_{bad:Option Int}(hh:aW<=60)(hl:ks.length<64)(kd:D)(hk:fG (aj 2) [some (.int size,.sh []),some (j_ bad,.sh []),some (kd,.sh []),some (.int aW,.sh []),none,none]=some (ks.map D.int,.sh []))
  (hk2:∀t,fG (aj 2) [some (.int size,.sh []),some (j_ bad,.sh []),some (kd,.sh []),some (.int aW,.sh []),some (.int (endOf size bad),t),none]=some (ks.map D.int,.sh [])) :
  Ja [.int size,j_ bad,kd,.int aW]=some (.lst ((W size bad ks aW).map D.int)):=by
 refine bq rfl ?_;show DA [some (.int size,.sh []),some (j_ bad,.sh []),some (kd,.sh []),some (.int aW,.sh []),none,none]=_;unfold DA;let#[t4,ht,h1]:=adU (Y:=[some (.int size,.sh []),some (j_ bad,.sh []),some (kd,.sh []),some (.int aW,.sh []),none,none]) rfl rfl;have q1:dw 4 (pM (tV (e2 jv (aj 1) (eC .aC))) (e2 f9 (aj 0) (eC (.int 1))) (aj 1)) [some (.int size,.sh []),some (j_ bad,.sh []),some (kd,.sh []),some (.int aW,.sh []),none,none]=some (.nx [some (.int size,.sh []),some (j_ bad,.sh []),some (kd,.sh []),some (.int aW,.sh []),some (.int (endOf size bad),t4),none]):=by
  rw[Bq,h1];rcases ht with rfl|rfl<;>rfl
 have q2:dw 5 (eW [none,some 4] (fG (aj 2)) (gN 0) (tV (e2 oLt (aj 0) (aj 1))) (aj 0)) [some (.int size,.sh []),some (j_ bad,.sh []),some (kd,.sh []),some (.int aW,.sh []),some (.int (endOf size bad),t4),none]=some (.nx (rW size bad kd aW (endOf size bad) t4 (kh (endOf size bad) ks))):=by
  rw[Bq,Zx (hk2 t4) rfl hl];rfl
 have q3:=Rh (size:=size) (bad:=bad) (kd:=kd) (e:=endOf size bad) ht hh 100 (kh (endOf size bad) ks) 4000 (by lia) (by lia);rw[jy,q1,oJ,jy,q2,oJ,jy,q3,oJ];rfl
def aaT{bad:Option Int}(hh:aW<=60)(hl:ks.length<64):Ja [.int size,j_ bad,.lst (ks.map D.int),.int aW]=some (.lst ((W size bad ks aW).map D.int)):=Z_ hh hl _ rfl λ_=>rfl
theorem Pf{bad:Option Int}(hh:aW<=60):∀(n:Nat) (ws:List Int),ws.length<64->(jV size bad e aW n ws).length<64
 |0,ws,h=>h
 |n+1,ws,h=>by
  unfold jV
  split
  .rename_i hc;refine Pf hh n _ ?_;rw[Ay];unfold lim at hc
   split at hc<;>lia
  .exact h
def Y4{bad:Option Int}(hh:aW<=60)(hl:ks.length<64):(W size bad ks aW).length<64:=Pf hh _ _ (aih (ad9 _ _) hl)
structure kJ(e:Int)(ws:List Int):Prop where
 so:ws.Pairwise (· < ·)
 bd:∀x∈ws,1<=x/\x<e
theorem between:∀{f:List Int}{q:Int×Int}{x:Int},f.Pairwise (· < ·)->q∈pairs f->x∈f->x<=q.1\/q.2<=x
 |[],q,x,_,m,_=>by ext m
 |[a],q,x,_,m,_=>by ext m
 |a::b::r,q,x,hp,m,mx=>by
  let#[h1,h2]:=aew.mp hp;have hs:pairs (a::b::r)=(a,b)::pairs (b::r):=rfl;rw[hs] at m;rcases aaO.mp m with hq|m'
  .subst hq;rcases aaO.mp mx with hx|rm
   .exact .inl (by show x<=a;lia)
   .rcases aaO.mp rm with hx|WS
    .exact .inr (by show b<=x;lia)
    .have:=(aew.mp h2).1 x WS;apply .inr (by show b<=x;lia)
  .rcases aaO.mp mx with hx|rm
   .have:=h1 q.1 (D3 m').1;apply .inl (by lia)
   .exact between h2 m' rm
def afx(h:kJ e ws)(he:1<=e):(fence ws e).Pairwise (· < ·):=by
 refine aew.mpr #[λx m=>?_,List.pairwise_append.mpr #[h.so,ahA _ _,λx m y my=>?_]]
 .rcases abC.mp m with m|m
  .have:=h.bd x m;lia
  .cases aav.mp m;lia
 .cases aav.mp my;apply(h.bd x m).2
def afH(h:kJ e ws)(hl:(ws.length:Int)<e-1):mid (fence ws e)<e/\mid (fence ws e)∉ws:=by
 have hf:=afx h (by lia);obtain⟨q,m,hq⟩:∃q∈pairs (fence ws e),2<=q.2-q.1:=by
  refine ahm λhn=>?_
  have:=E_ (ws++[e]) 0 λq m=>by
   refine ahm λh=>hn #[q,m,by lia]
  have q1:(0::(ws++[e])).getLastD 0=e:=by rw[show(0::(ws++[e]))=(0::ws)++[e] from rfl,List.getLastD_concat]
  rw[q1,aa3,ac7] at this
  lia
 have hb:=(Df (pairs (fence ws e)) ((fence ws e).headD 0,(fence ws e).headD 0)).2 q m;unfold mid;dsimp only;rcases AR (pairs (fence ws e)) ((fence ws e).headD 0,(fence ws e).headD 0) with h'|h'
 .rw[h'] at hb;dsimp only at hb
  lia
 .generalize best ((fence ws e).headD 0,(fence ws e).headD 0) (pairs (fence ws e))=p at hb h';have h2:p.2<=e:=by
   have:=(D3 h').2;rcases aaO.mp this with z|z
   .lia
   .rcases abC.mp z with z|z
    .have:=(h.bd _ z).2;lia
    .rw[aav.mp z];apply Int.le_refl _
  refine#[by lia,λmx=>?_];rcases between hf h' (aab _ (aa4 _ mx)) with z|z<;>lia
section
variable{size aW e:Int}{bad:Option Int}
def Xf(h:kJ e ws)(he:e=endOf size bad)(hl:(ws.length:Int)<e-1):1<=pick size bad e ws/\pick size bad e ws<e/\pick size bad e ws∉ws:=by
 unfold pick
 split
 .rename_i hc;cases bad with
  |none=>
   have he:e=size+1:=he;refine#[by lia,by lia,λm=>?_];have:ws.any (· == size)=true:=aeK.mpr #[size,m,aia size];rw[this] at hc;ext hc
  |some b=>ext hc
 .let#[h1,h2]:=afH h hl;apply#[acD (λx m=>(h.bd x m).1) hl,h1,h2]
def N7(h:kJ e ws)(he:e=endOf size bad)(hl:(ws.length:Int)<e-1):kJ e (ji size bad e ws)/\∀x∈ws,x∈ji size bad e ws:=by
 let#[p1,p2,p3]:=Xf h he hl;have hp:(ji size bad e ws).Perm (ws++[pick size bad e ws]):=sX _;have hn:(ji size bad e ws).Nodup:=by
  refine hp.nodup_iff.mpr (adQ.mpr #[h.so.imp λeT=>Int.ne_of_lt eT,ab6.mpr #[(λm=>by ext m),ac6],λa ma b mb e=>?_]);cases aav.mp mb;apply p3 (e ▸ ma)
 refine#[#[?_,λx m=>?_],λx m=>hp.mem_iff.mpr (aa4 _ m)]
 .have hs:(ji size bad e ws).Pairwise (·<=·):=Gy _;apply(List.pairwise_and_iff.mpr #[hs,hn]).imp λh=>by have h1:=h.1;have h2:=h.2;lia
 .rcases abC.mp (hp.mem_iff.mp m) with m|m
  .exact h.bd x m
  .rw[aav.mp m];apply#[p1,p2]
theorem BP(he:e=endOf size bad):∀(n:Nat) (ws:List Int),kJ e ws->kJ e (jV size bad e aW n ws)/\∀x∈ws,x∈jV size bad e aW n ws
 |0,ws,h=>#[h,λx m=>m]
 |n+1,ws,h=>by
  unfold jV
  split
  .rename_i hc;have hl:(ws.length:Int)<e-1:=by unfold lim at hc;split at hc<;>lia
   let#[a,b]:=N7 h he hl;let#[c,d]:=BP he n (ji size bad e ws) a;apply#[c,λx m=>d x (b x m)]
  .exact#[h,λx m=>m]
theorem LU:∀(n:Nat) (ws:List Int),ws.length<=(jV size bad e aW n ws).length
 |0,ws=>abD _
 |n+1,ws=>by
  unfold jV
  split
  .have:=LU n (ji size bad e ws);rw[Ay] at this
   lia
  .exact abD _
end
def agi{bad:Option Int}(hk:kJ (endOf size bad) ks)(hh:1<=aW)(he:2<=endOf size bad):kJ (endOf size bad) (W size bad ks aW)/\(∀x∈ks,x∈W size bad ks aW)/\W size bad ks aW≠[]:=by
 have hi:kh (endOf size bad) ks=ks:=by
  unfold kh;apply aiw.mpr λx m=>aaC (hk.bd x m).2
 unfold W;rw[hi];let#[a,b]:=BP rfl 100 ks hk;refine#[a,b,λz=>?_];cases ks with
 |nil=>
  have hg:=LU (size:=size) (bad:=bad) (e:=endOf size bad) (aW:=aW) 99 (ji size bad (endOf size bad) []);have hc:(([]:List Int).length:Int)<lim (endOf size bad) aW:=by unfold lim;show(0:Int)<_;split<;>lia
  have ja:jV size bad (endOf size bad) aW 100 []=jV size bad (endOf size bad) aW 99 (ji size bad (endOf size bad) []):=by
   show(if _ then _ else _)=_;rw[if_pos hc]
  rw[ja] at z;rw[z,Ay] at hg;simp at hg
 |cons k r=>
  have:=b k aah;rw[z] at this;ext this
def YH{bad:Option Int}(h:ks.Pairwise (· < ·))(h1:∀x∈ks,1<=x):kJ (endOf size bad) (W size bad ks aW)/\∀x∈ks,x<endOf size bad->x∈W size bad ks aW:=by
 have hi:kJ (endOf size bad) (kh (endOf size bad) ks):=#[h.sublist afr,λx m=>let q:=adh.mp m;#[h1 x q.1,aaK q.2]]
 let#[a,b]:=BP rfl 100 _ hi;apply#[a,λx m hx=>b x (adh.mpr #[m,aaC hx])]
def qw(hl:ds.length+1=n)(h:b (BZ N d0 ds)=some (.nx Y))(h0:Y[0]? = some (some (d1,.own))):runM n N b d0 ds=some (.aC,d1):=by unfold runM;rw[if_pos hl,h];dsimp only;rw[h0]
def hs(h:List Str):D:=.lst (h.map D.str)
def tob(n t:Int)(h:List Str):D:=.ins "Tally" [("need",.int n),("tries",.int t),("heard",hs h)]
def Qg(h:1<=n/\n<=t/\t<=20):aaG [.int n,.int t]=some (.bl true):=
 bq rfl (cu (mU (b:=true) (bP rfl (Ct.trans (by rw[aaC (show(1:Int)<=t by omega),aaC h.2.2];rfl))) (bP rfl (Ct.trans (by rw[aaC h.1,aaC h.2.1];rfl)))))
def aeP(h:1<=n/\n<=t/\t<=20):Bo (.ins "Tally" []) [.int n,.int t]=some (.aC,tob n t []):=
 qw rfl (bZ (kN (bA (bP (ps:=[(.int n,.sh []),(.int t,.sh [])]) rfl (Qg h)))) rfl) rfl
def ZP:AM (hs h) (.str w)=some (.int (iV w h)):=by
 show(kU (h.map D.str)).map (λys=>D.int (iV w ys))=_;rw[Ut];rfl
def Nr:iV w (h++[v])=iV w h+(if(v==w)=true then 1 else 0):=by
 unfold iV;rw[List.countP_append,List.countP_cons,List.countP_nil,Nat.zero_add]
def aev:fW (hs h)=some (.int h.length):=by unfold hs;rw[oZ,List.length_map]
def word(n t:Int)(h:List Str):Str:=if(iV "yes" h:Int) >= n then "yes" else if(iV "no" h:Int) >= n then "no" else if(h.length:Int) >= t then "unsure" else "more"
def Nn:N9 [tob n t h]=some (.str (word n t h)):=by
 have c1:∀w:Str,tV (e2 BF (e2 AM (bU "Tally" "heard" (aj 0)) (eC (.str w))) (bU "Tally" "need" (aj 0))) [some (tob n t h,.sh [])]=some (decide ((iV w h:Int) >= n)):=λw=>bA (aQ (aQ rfl rfl ZP) rfl rfl)
 have c2:tV (e2 BF (e1 fW (bU "Tally" "heard" (aj 0))) (bU "Tally" "tries" (aj 0))) [some (tob n t h,.sh [])]=some (decide ((h.length:Int) >= t)):=bA (aQ (cN rfl aev) rfl rfl);refine bq rfl ?_;unfold word
 by_cases a1:(iV "yes" h:Int) >= n
 .rw[if_pos a1];apply qC ((c1 _).trans (by rw[aaC a1])) (jX rfl)
 .rw[abo a1];refine bZ ((c1 _).trans (by rw[aa8 a1])) ?_
  by_cases a2:(iV "no" h:Int) >= n
  .rw[if_pos a2];apply qC ((c1 _).trans (by rw[aaC a2])) (jX rfl)
  .rw[abo a2];refine bZ ((c1 _).trans (by rw[aa8 a2])) ?_
   by_cases a3:(h.length:Int) >= t
   .rw[if_pos a3];apply qC (c2.trans (by rw[aaC a3])) (jX rfl)
   .rw[abo a3];apply bZ (c2.trans (by rw[aa8 a3])) rfl
theorem NC:∀h:List Str,aP (h.map D.str)=true
 |[]=>rfl
 |x::h=>by rw[aaB];unfold aP;rw[NC h];rfl
def VU(hw:w∈(["yes","no","unsure"]:List Str))(hm:word n t h="more")(hl:h.length<=100):QC (tob n t h) [.str w]=some (.str (word n t (h++[w])),tob n t (h++[w])):=by
 have m1:∀h:List Str,bN "Tally" "word" N9 (aj 0) aA [some (tob n t h,.own),some (.str w,.sh [])]=some (.str (word n t h),.own):=λh=>k8 rfl rfl rfl Nn
 refine lX rfl (bZ ?_ (bZ (bA (aQ (m1 h) rfl (by rw[hm];rfl))) (sq (Y':=[some (tob n t (h++[w]),.own),some (.str w,.sh [])]) (jG ?_) ?_)))
 .simp only[aaO,acL,aiE] at hw;rcases hw with rfl|rfl|rfl<;>rfl
 .refine(Ar rfl rfl rfl (by rw[NC,List.length_map,aaC (size_le (by lia))];rfl)).trans ?_;unfold tob hs;rw[aea];rfl
 .unfold wj;rw[m1 (h++[w])];rfl
def Wo(hm:word n t h="more"):(h.length:Int)<t:=by
 unfold word at hm
 split at hm
 .exact absurd hm (by decide +kernel)
 .split at hm
  .exact absurd hm (by decide +kernel)
  .split at hm
   .exact absurd hm (by decide +kernel)
   .omega
abbrev Ta:=List (List Int×List Str)
structure G where
 w:Int
 h:Int
 n:Int
 t:Int
 C:List Ch
 ln:List Int
 ld:List Int
 gr:List (Key×D)
 ta:Ta
 lk:List (List Int)
 ht:Bool
 gw:List (List Int)
 en:List D
 an:Int
 br:Int
def tD(l:List Int):D:=.tup (l.map D.int)
def kL(l:List Int):List Key:=l.map Sum.inl
def oV(n t:Int)(ta:Ta):List (List Key×D):=ta.map λp=>(kL p.1,tob n t p.2)
def gF(g:G):List (Str×D):=[("numbers",.tup [.int g.w,.int g.h,.int g.n,.int g.t]),("known",obj g.C),("on_line",iL g.ln),("laid_ones",iL g.ld),("grounds",.bS g.gr),("tallies",.fY (oV g.n g.t g.ta)),("looks",.lst (g9 g.lk)),("halted",.bl g.ht),("grown",.lst (g9 g.gw)),("ended",.lst g.en),("answers",.int g.an),("breaks",.int g.br)]
def gD(g:G):D:=.ins "Gate" (gF g)
def Ej(h:fo Y=some (obj C,t))(ha:fa Y=some (x,t2))(hF:F [obj C,x]=some d)(hm:(mm==("entries":Str))=false:=by decide):bN "Changes" mm F fo (ao fa aA) Y=some (d,.own):=
 k8 (ps:=[(x,t2)]) h (uB hm) (by rw[aM,ha,xM,Dv]) hF
def fl(h:fo Y=some (gD g,t))(e:(gF g).lookup f=some d:=by rfl):bU "Gate" f fo Y=some (d,lu t):=by
 unfold bU;rw[h];show(if("Gate":Str)="Gate" then((gF g).lookup f).map _ else none)=_;rw[if_pos rfl,e];rfl
def fB(h:fo Y=some (gD g,t))(hF:F [gD g]=some d)(hm:(gF g).lookup mm=none:=by rfl):bN "Gate" mm F fo aA Y=some (d,.own):=k8 h hm rfl hF
def qI(h:fo Y=some (gD g,t))(ha:fa Y=some (x,t2))(hF:F [gD g,x]=some d)(hm:(gF g).lookup mm=none:=by rfl):bN "Gate" mm F fo (ao fa aA) Y=some (d,.own):=
 k8 (ps:=[(x,t2)]) h hm (by rw[aM,ha,xM,Dv]) hF
def bB(gr:List (Key×D))(x:Int):Bool:=(aZ gr (Sum.inl x:Key)).isSome
abbrev fX(g:G)(x:Int):Bool:=bB g.gr x
def gx(g:G)(x:Int):Bool:=!decide (x∈g.ln)&&(!decide (x∈g.ld)&&!fX g x)
def G7(h:f Y=some (.int x,t))(h2:f2 Y=some (iL l,t2)):e2 (ju true) f f2 Y=some (.bl (!decide (x∈l)),.own):=
 aQ h h2 (by rw[<- Az];apply yK)
def VL:abZ [gD g,.int x]=some (.bl (gx g x)):=
 bq rfl (cu (mU (G7 rfl (fl rfl)) (mU (G7 rfl (fl rfl)) (aQ rfl (fl rfl) rfl))))
def wl(g:G):List Int:=(aJ 1 g.C.length).filter (gx g)
def c_:(aJ a n).length=n:=by unfold aJ;rw[List.length_map,List.length_range]
def CH(hR:g.C.length<=100):B0 [gD g]=some (iL (wl g)):=by
 have hi:pV (eC (.int 1)) (e2 f9 (bN "Changes" "many" Fc (bU "Gate" "known" (aj 0)) aA) (eC (.int 1))) [some (gD g,.sh [])]=some ((aJ 1 g.C.length).map D.int,.own):=by
  rw[yf rfl (aQ (k8 (fl rfl) rfl rfl (Nq g.C)) rfl rfl) (sV (by lia) (by lia)) (sV (by lia) (by lia)),show((g.C.length:Int)+1-1).toNat=g.C.length by lia]
 apply bq rfl (cu (lS hi (by rw[c_];lia) (λx=>rfl) (λx mx=>bA (qI rfl rfl VL))))
def mZ:x∈wl g↔(1<=x/\x<=(g.C.length:Int))/\x∉g.ln/\x∉g.ld/\fX g x=false:=by
 unfold wl;rw[adh,dX];unfold gx;simp only[aaV,Bool.not_eq_true',decide_eq_false_iff_not];apply and_congr_left λ_=>by lia
def gq:Row g.C (wl g):=λx m=>(mZ.mp m).1
def BS:(wl g).Pairwise (· < ·):=(vM 1 _).sublist afr
def yF:(wl g).Nodup:=BS.imp (λh=>by lia)
def Cf:(wl g).length<=g.C.length:=by
 have:=ad9 (gx g) (aJ 1 g.C.length)
 rwa [c_] at this
def gv{κ α:Type}[DecidableEq κ](es:List (κ×α))(k:κ):Option α:=(es.find? λkv=>decide (kv.1=k)).map (·.2)
def gp{κ α:Type}[DecidableEq κ](es:List (κ×α))(k:κ)(d:α):List (κ×α):=if(es.any λkv=>decide (kv.1=k))=true then es.map (λkv=>if kv.1=k then(kv.1,d) else kv) else es++[(k,d)]
def Zz[DecidableEq κ]{es:List (κ×α)}:gv (gp es k d) k=some d:=by
 unfold gv gp
 by_cases h:(es.any λkv=>decide (kv.1=k))=true
 .rw[if_pos h]
  induction es with
  |nil=>ext h
  |cons a r ih=>
   rw[aaB]
   by_cases z:a.1=k
   .rw[if_pos z,ag6 (by simpa using z)];rfl
   .rw[abo z,agx (by simpa using z)];apply ih (by rw[aiu,aa8 z,Bool.false_or] at h;apply h)
 .rw[abo h,List.find?_append];have:es.find? (λkv=>decide (kv.1=k))=none:=by
   rw[ahs];intro x m e;apply h (aeK.mpr #[x,m,e])
  rw[this];simp
def Uw[DecidableEq κ]{es:List (κ×α)}(h:j≠k):gv (gp es k d) j=gv es j:=by
 unfold gv gp
 congr 1
 split
 .rename_i hh;clear hh
  induction es with
  |nil=>rfl
  |cons a r ih=>
   rw[aaB]
   by_cases z:a.1=k
   .rw[if_pos z];have:¬a.1=j:=λe=>h (e.symm.trans z)
    rw[agx (by simpa using this),agx (by simpa using this)];apply ih
   .rw[abo z]
    by_cases y:a.1=j
    .rw[ag6 (by simpa using y),ag6 (by simpa using y)]
    .rw[agx (by simpa using y),agx (by simpa using y)];apply ih
 .rw[List.find?_append,agx (by simpa using λe:k=j=>h e.symm)];simp
def BD{κ:Type}{k:κ}[DecidableEq κ]{es:List (κ×D)}:(aZ (putD es k d) k)=some d:=Zz
def O5{κ:Type}{j k:κ}[DecidableEq κ]{es:List (κ×D)}(h:j≠k):aZ (putD es k d) j=aZ es j:=Uw h
def tY{gr:List (Key×D)}:bB (putD gr (Sum.inl x) d) y=(decide (y=x)||bB gr y):=by
 unfold bB
 by_cases h:y=x
 .rw[h,BD,aaC rfl];rfl
 .rw[O5 (λe=>by injection e with e;apply h e),aa8 h];rfl
def BC:aP ds=true↔∀d∈ds,aH d=true:=by
 induction ds with
 |nil=>apply#[λ_ d m=>(nomatch m),λ_=>rfl]
 |cons a r ih=>
  unfold aP;rw[aaV,ih];apply#[λh d m=>(aaO.mp m).elim (λe=>e ▸ h.1) (h.2 d),λh=>#[h a aah,λd m=>h d (aab _ m)]]
def Yy[DecidableEq κ]{es:List (κ×D)}(h:aP (es.map (·.2))=true)(hd:aH d=true):aP ((putD es k d).map (·.2))=true:=by
 rw[BC] at h ⊢;intro y m;let#[kv,mk,rfl]:=acg.mp m;unfold putD at mk
 split at mk
 .let#[x,mx,rfl]:=acg.mp mk
  split
  .exact hd
  .exact h _ (acg.mpr #[x,mx,rfl])
 .rcases abC.mp mk with mk|mk
  .exact h _ (acg.mpr #[kv,mk,rfl])
  .cases aav.mp mk;apply hd
def Q_[DecidableEq κ]{es:List (κ×α)}:(gp es k d).map (·.1)=if k∈es.map (·.1) then es.map (·.1) else es.map (·.1)++[k]:=by
 unfold gp
 by_cases h:(es.any λkv=>decide (kv.1=k))=true
 .rw[if_pos h,if_pos (by let#[x,m,e]:=aeK.mp h;apply acg.mpr #[x,m,aaK e]),adK];refine afw λa _=>?_
  show(if a.1=k then(a.1,d) else a).1=a.1
  split<;>rfl
 .rw[abo h,abo (λm=>by let#[x,m,e]:=acg.mp m;apply h (aeK.mpr #[x,m,aaC e])),aea];rfl
def Uv[DecidableEq κ]{es:List (κ×α)}(h:(es.map (·.1)).Nodup):((gp es k d).map (·.1)).Nodup:=by
 rw[Q_]
 split
 .exact h
 .rename_i hk;apply adQ.mpr #[h,by simp,λa ma b mb e=>by cases aav.mp mb;apply hk (e ▸ ma)]
structure Gr(n:Nat)(gr:List (Key×D)):Prop where
 im:aP (gr.map (·.2))=true
 nd:(gr.map (·.1)).Nodup
 ks:∀k∈gr.map (·.1),∃x:Int,k=Sum.inl x/\x∈aJ 1 n
 tp:∀p∈gr,(SG p.2).isSome=true
def ack[DecidableEq κ]{es:List (κ×α)}(m:q∈gp es k d):q∈es\/q=(k,d):=by
 unfold gp at m
 split at m
 .let#[p,mp,rfl]:=acg.mp m
  split
  .rename_i e;apply .inr (by rw[e])
  .exact .inl mp
 .exact(abC.mp m).imp id aav.mp
def Gr.put(h:Gr n gr)(hx:x∈aJ 1 n)(hd:aH d=true)(ht:(SG d).isSome=true:=by rfl):Gr n (putD gr (Sum.inl x) d):=#[Yy h.im hd,Uv h.nd,λk m=>by
 have m:k∈(gp gr (Sum.inl x) d).map (·.1):=m;rw[Q_] at m
 split at m
 .exact h.ks k m
 .rcases abC.mp m with m|m
  .exact h.ks k m
  .exact#[x,aav.mp m,hx],λp m=>(ack m).elim (h.tp p) λe=>by rw[e];apply ht]
def VF(h:bB gr x=false):putD gr (Sum.inl x) d=gr++[(Sum.inl x,d)]:=by
 unfold putD;rw[abo];intro q;let#[kv,m,e]:=aeK.mp q;unfold bB aZ at h;rw[ahZ] at h;have:=(List.find?_isSome (p:=λkv:Key×D=>decide (kv.1=Sum.inl x))).mpr #[kv,m,e];rw[h] at this;ext this
def kG:List (Key×D)->List Int
 |[]=>[]
 |(.inl x,_)::r=>x::kG r
 |_::r=>kG r
theorem uL:∀{gr},(∀k∈gr.map (·.1),∃x:Int,k=Sum.inl x/\x∈aJ 1 n)->gr.map (·.1)=(kG gr).map Sum.inl/\kg gr=some (kG gr)
 |[],_=>#[rfl,rfl]
 |(k,d)::r,h=>by
  let#[x,e,_]:=h k aah;let#[a,b]:=uL λk m=>h k (aab _ m)
  have e:=e;subst e;refine#[by rw[aaB,a];rfl,?_];show(kg r).map _=_;rw[b];rfl
def afo{l:List Int}:(l.map (Sum.inl:Int->Key)).Nodup↔l.Nodup:=by
 unfold List.Nodup;rw[ain];apply#[λh=>h.imp λq e=>q (by rw[e]),λh=>h.imp λq e=>q (aiV e)]
def Gr.nK{gr:List (Key×D)}(h:Gr n gr):(kG gr).Nodup:=afo.mp ((uL h.ks).1 ▸ h.nd)
def Gr.mem{gr:List (Key×D)}(h:Gr n gr):x∈kG gr↔bB gr x=true:=by
 have e:=(uL h.ks).1;unfold bB aZ;rw[ahZ,List.find?_isSome];constructor
 .intro m;have:(Sum.inl x:Key)∈gr.map (·.1):=e ▸ acg.mpr #[x,m,rfl];let#[kv,mk,q]:=acg.mp this;apply#[kv,mk,aaC q]
 .rintro⟨kv,mk,q⟩
  have:(Sum.inl x:Key)∈gr.map (·.1):=acg.mpr #[kv,mk,aaK q];rw[e] at this;let#[y,my,q]:=acg.mp this;apply aiV q ▸ my
def Gr.bd{gr:List (Key×D)}(h:Gr n gr)(m:bB gr x=true):x∈aJ 1 n:=by
 have:(Sum.inl x:Key)∈gr.map (·.1):=(uL h.ks).1 ▸ acg.mpr #[x,h.mem.mpr m,rfl];let#[y,e,q]:=h.ks _ this;apply aiV e ▸ q
def Gr.len{gr:List (Key×D)}(h:Gr n gr):gr.length<=n:=by
 have:=sub_len h.nK λx m=>h.bd (h.mem.mp m)
 rw[c_] at this;have e:=congrArg List.length (uL h.ks).1;rw[List.length_map,List.length_map] at e
 lia
abbrev mR(ta:Ta)(l:List Int):Option (List Str):=gv ta l
def wd(g:G)(l:List Int):Str:=match mR g.ta l with
 |none=>"more"
 |some h=>word g.n g.t h
theorem Au:∀l:List Int,jN (l.map D.int)=some (kL l)
 |[]=>rfl
 |x::l=>by
  rw[aaB];unfold jN;rw[Au l];rfl
theorem Bj:∀{a b},kL a=kL b->a=b
 |[],[],_=>rfl
 |[],_::_,e=>by ext e
 |_::_,[],e=>by ext e
 |x::a,y::b,e=>by
  injection e with e1 e2;ext e1;rw[Bj e2]
section
variable[DecidableEq κ][DecidableEq RD]{φ:κ->RD}{ψ:α->D}{k:κ}
theorem Mh(zS:∀a b,φ a=φ b->a=b):∀es:List (κ×α),aZ (es.map λp=>(φ p.1,ψ p.2)) (φ k)=(gv es k).map ψ
 |[]=>rfl
 |p::r=>by
  have ih:=Mh zS r;unfold aZ gv at ih ⊢;rw[aaB,adV,adV,show decide ((φ p.1,ψ p.2).1=φ k)=decide (p.1=k) from aiz.mpr #[zS _ _,λe=>by rw[<- e]]];cases decide (p.1=k) with
  |true=>rfl
  |false=>apply ih
def Zj(zS:∀a b,φ a=φ b->a=b):putD (es.map λp=>(φ p.1,ψ p.2)) (φ k) (ψ d)=(gp es k d).map λp=>(φ p.1,ψ p.2):=by
 unfold putD gp;rw[aiq,show es.any ((λkv:RD×D=>decide (kv.1=φ k)) ∘ λp=>(φ p.1,ψ p.2))=es.any λp=>decide (p.1=k) from congrArg es.any (funext λp=>aiz.mpr #[zS _ _,λe=>by rw[<- e]])]
 split
 .rw[adK,adK];refine afw λp _=>?_
  simp only[Function.comp]
  by_cases z:p.1=k
  .rw[if_pos (by rw[z]),if_pos z]
  .rw[abo λq=>z (zS _ _ q),abo z]
 .rw[aea];rfl
end
def LV(ta:Ta):aZ (oV n t ta) (kL l)=(mR ta l).map (tob n t):=Mh (λ_ _=>Bj) ta
def JQ:Ac [gD g,tD l]=some (.str (wd g l)):=by
 have v:=LV (n:=g.n) (t:=g.t) (l:=l) g.ta;have o8:tV (e2 (EL false) (aj 1) (bU "Gate" "tallies" (aj 0))) [some (gD g,.sh []),some (tD l,.sh [])]=some (aZ (oV g.n g.t g.ta) (kL l)).isSome:=bA (aQ rfl (fl rfl) (by
  show(jN (l.map D.int)).map _=_;rw[Au];rfl))
 refine bq rfl (cu ?_);unfold wd;rw[v] at o8;cases e:mR g.ta l with
 |none=>rw[e] at o8;apply Ni o8
 |some h=>
  rw[e] at o8 v;refine(QS o8).trans (k8 (t:=.sh []) ?_ rfl rfl Nn);unfold JC;rw[fl rfl,show aj 1 [some (gD g,.sh []),some (tD l,.sh [])]=some (tD l,.sh []) from rfl];show(jN (l.map D.int)).bind _=_;rw[Au,adG,v];rfl
def ic(g:G)(p:Nat):List Int:=g.ln++g.ld.take p
def f_look{p:Nat}(hp:p<=g.ld.length)(hl:g.ln.length+g.ld.length<=1000):zI [gD g,.int p]=some (tD (ic g p)):=by
 have hc:oY (bU "Gate" "laid_ones" (aj 0)) (aj 1) [some (gD g,.sh []),some (.int p,.sh [])]=some (iL (g.ld.take p),.own):=by
  unfold oY;rw[fl rfl,show aj 1 [some (gD g,.sh []),some (.int p,.sh [])]=some (.int p,.sh []) from rfl];show(if aP (g.ld.map D.int)=true then some (D.lst (cutD (g.ld.map D.int) none (some (p:Int))),Tag.own) else none)=_;rw[if_pos (fm _),D_ (by rw[List.length_map];apply hp),<- aiT];rfl
 have h1:=ah9 (i:=p) (l:=g.ld);apply bq rfl (cu (cN (aQ (fl rfl) hc (zm (by rw[aga];lia))) CS))
def bw(s:Str):Bool:=(["no","unsure"]:List Str).any (· == s)
def lG(g:G)(p:Nat):Bool:=bw (wd g (ic g p))
def dM(g:G):Option Nat:=((List.range g.ld.length).map (· + 1)).find? (lG g)
def bD:Option Nat->D
 |none=>.aC
 |some p=>.int p
theorem Qu(hl:g.ln.length+g.ld.length<=1000):∀{ps:List Nat} {s1},(∀p∈ps,p<=g.ld.length)->∃qP,
  dD (gN 1) (.sh []) (dN (tV (e2 (uQ false) (bN "Gate" "word_of" Ac (aj 0) (ao (bN "Gate" "look_of" zI (aj 0) (ao (aj 1) aA)) aA)) (eC (.tup ((["no","unsure"]:List Str).map D.str))))) (uq 1) eO) (ps.map λp:Nat=>D.int p) [some (gD g,.sh []),s1]=some (match ps.find? (lG g) with|none=>.nx [some (gD g,.sh []),qP]|some p=>.rt (.int p))
 |[],s1,_=>#[s1,rfl]
 |p::ps,s1,h=>by
  let#[a,e]:=Qu hl (λq m=>h q (aab _ m));have ht:tV (e2 (uQ false) (bN "Gate" "word_of" Ac (aj 0) (ao (bN "Gate" "look_of" zI (aj 0) (ao (aj 1) aA)) aA)) (eC (.tup ((["no","unsure"]:List Str).map D.str)))) [some (gD g,.sh []),some (.int p,.sh [])]=some (lG g p):=
   bA (aQ (qI rfl (qI rfl rfl (f_look (h p aah) hl)) JQ) rfl rfl)
  refine#[a,?_];rw[adV];cases eb:lG g p with
  |true=>
   rw[eb] at ht;apply Nu (bf:=[some (gD g,.sh []),some (.int p,.sh [])]) rfl (by rw[iO,ht];rfl)
  |false=>
   rw[eb] at ht;apply(jx (bf:=[some (gD g,.sh []),some (.int p,.sh [])]) rfl (by rw[iO,ht];rfl)).trans e
def aa5(n:Nat):(aJ 1 n).map D.int=((List.range n).map (· + 1)).map λp:Nat=>D.int p:=by
 unfold aJ;rw[adK,adK];refine afw λi _=>?_
 show D.int (1+(i:Int))=D.int ((i+1:Nat):Int);rw[show(1+(i:Int))=((i+1:Nat):Int) by lia]
def wA:p∈(List.range n).map (· + 1)↔1<=p/\p<=n:=by
 rw[acg];apply#[λ⟨i,m,e⟩=>by have:=ahD.mp m;lia,λh=>#[p-1,ahD.mpr (by lia),by lia]]
def xY{g:G}(hl:g.ln.length+g.ld.length<=900):zY [gD g]=some (bD (dM g)):=by
 let#[a,e]:=Qu (by lia) (ps:=(List.range g.ld.length).map (· + 1)) (λp m=>(wA.mp m).2);have hi:pV (eC (.int 1)) (e2 f9 (e1 fW (bU "Gate" "laid_ones" (aj 0))) (eC (.int 1))) [some (gD g,.sh []),none]=some (((List.range g.ld.length).map (· + 1)).map λp:Nat=>D.int p,.own):=by
  rw[yf rfl (aQ (cN (fl rfl) (by show some (D.int (g.ld.map D.int).length)=_;rw[List.length_map])) rfl rfl) (sV (by lia) (by lia)) (sV (by lia) (by lia)),show((g.ld.length:Int)+1-1).toNat=g.ld.length by lia,aa5]
 refine bq rfl ?_;unfold dM;cases eb:((List.range g.ld.length).map (· + 1)).find? (lG g) with
 |none=>rw[eb] at e;apply sq (lM hi e) rfl
 |some p=>rw[eb] at e;apply jX (Py hi e)
def Jr(h:dM g=some p):1<=p/\p<=g.ld.length/\lG g p=true/\∀q,1<=q->q<p->lG g q=false:=by
 let#[h1,as,bs,e,h2]:=List.find?_eq_some_iff_append.mp h;have hp:=wA.mp (show p∈(List.range g.ld.length).map (· + 1) from e ▸ aaS _ aah);refine#[hp.1,hp.2,h1,λq q1 q2=>?_];have so:((List.range g.ld.length).map (· + 1)).Pairwise (· < ·):=ain.mpr (List.pairwise_lt_range.imp λh=>by lia);have mq:q∈(List.range g.ld.length).map (· + 1):=wA.mpr (by lia);rw[e] at so mq;rcases abC.mp mq with m|m
 .simpa using h2 q m
 .rcases aaO.mp m with m|m
  .lia
  .have:=(aew.mp (List.pairwise_append.mp so).2.1).1 q m;lia
def wH:dM g=none↔∀p,1<=p->p<=g.ld.length->lG g p=false:=by
 unfold dM;rw[ahs];apply#[λh p h1 h2=>by simpa using h p (wA.mpr #[h1,h2]),λh p m=>by simpa using h p (wA.mp m).1 (wA.mp m).2]
theorem KS:∀a b:List Int,PyData.eqvAll (a.map PyData.int) (b.map PyData.int)=decide (a=b)
 |[],[]=>rfl
 |[],_::_=>rfl
 |_::_,[]=>rfl
 |x::a,y::b=>by
  simp only[aaB,PyData.eqvAll,PyData.eqv,KS a b]
  by_cases h:x=y<;>by_cases k:a=b<;>simp[h,k]
def Rj(l:List Int):py (tD l)=.tuple (l.map PyData.int):=by unfold tD;unfold py;rw[yp]
def Yp(l:List Int):dg (tD l)=true:=by
 unfold dg;have c1:gb (tD l)=true:=by unfold tD;unfold gb;apply Cz _
 rw[c1,Rj];have c2:(PyData.tuple (l.map PyData.int)).canLay0=true:=by simp only[PyData.canLay0];apply B6 l
 have c3:(PyData.tuple (l.map PyData.int)).depth<=40:=by simp only[PyData.depth,depthAll_ints];lia
 rw[c2,aaC c3];rfl
def any_rows(l:List Int)(L:List (List Int)):((fP (g9 L)).any λy=>PyData.eqv y (py (tD l)))=decide (l∈L):=by
 rw[GJ,Rj,aiq];have:((λy=>PyData.eqv y (PyData.tuple (l.map PyData.int))) ∘ jZ)=λr=>decide (r=l):=funext λr=>by
  simp only[Function.comp,jZ,PyData.eqv,KS]
 rw[this]
 by_cases h:l∈L
 .rw[aaC h];apply aeK.mpr #[l,h,by simp]
 .rw[aa8 h,ahe];intro e;let#[y,my,ey]:=aeK.mp e;apply h ((aaK ey) ▸ my)
def SV(neg:Bool)(l:List Int)(L:List (List Int)):CZ neg (tD l) (.lst (g9 L))=some (.bl (if neg=true then !decide (l∈L) else decide (l∈L))):=by
 show(if(dg (tD l)&&dg (.lst (g9 L)))=true then some (D.bl (if neg=true then !(fP (g9 L)).any λy=>PyData.eqv y (py (tD l)) else(fP (g9 L)).any λy=>PyData.eqv y (py (tD l)))) else none)=_;rw[Yp,WV,any_rows];rfl
def kp(g:G)(l:List Int):Bool:=decide (l∈g.lk)&&(wd g l == "more")
def aeD:ac2 [gD g,tD l]=some (.bl (kp g l)):=
 bq rfl (cu (mU (aQ rfl (fl rfl) (SV false l g.lk)) (aQ (qI rfl rfl JQ) rfl rfl)))
def jc(g:G):List Int:=(aJ 1 g.ld.length).filter λx=>kp g (ic g x.toNat)
def t_(g:G):Option Int:=(dM g).map λp:Nat=>(p:Int)
def rQ(g:G):List Int:=W g.ld.length (t_ g) (jc g) g.h
def qJ(g:G):List (List Int):=(rQ g).map λp=>ic g p.toNat
def abc(o:Option Nat):bD o=j_ (o.map λp:Nat=>(p:Int)):=by ext o<;>rfl
def yk:(jc g).Pairwise (· < ·)/\(∀x∈jc g,1<=x/\x<=g.ld.length)/\(jc g).length<=g.ld.length:=by
 refine#[(vM 1 _).sublist afr,λx m=>by have:=dX.mp (adh.mp m).1;lia,?_];have:=ad9 (λx=>kp g (ic g x.toNat)) (aJ 1 g.ld.length)
 rwa [c_] at this
def eo(g:G):Int:=endOf g.ld.length (t_ g)
def Oz:kJ (eo g) (rQ g)/\(∀p∈jc g,p<eo g->p∈rQ g):=
 YH yk.1 (λx m=>(yk.2.1 x m).1)
def OL:1<=eo g/\eo g<=g.ld.length+1:=by
 unfold eo t_;cases e:dM g with
 |none=>show 1<=(g.ld.length:Int)+1/\(g.ld.length:Int)+1<=_;lia
 |some p=>have:=Jr e;show 1<=(p:Int)/\(p:Int)<=_;lia
def Yz(hl:g.ln.length+g.ld.length<=900)(h6:g.ld.length<64)(hh:g.h<=60):Wc [gD g]=some (.lst (g9 (qJ g))):=by
 have hi:pV (eC (.int 1)) (e2 f9 (aj 1) (eC (.int 1))) [some (gD g,.sh []),some (.int g.ld.length,.own),none]=some ((aJ 1 g.ld.length).map D.int,.own):=by
  rw[yf rfl rfl (sV (by lia) (by lia)) (sV (by lia) (by lia)),show((g.ld.length:Int)+1-1).toNat=g.ld.length by lia]
 have look:∀{x:Int},1<=x->x<=g.ld.length->bN "Gate" "look_of" zI (aj 1) (ao (aj 0) aA) [some (.int x,.sh []),some (gD g,.sh [])]=some (tD (ic g x.toNat),.own):=λ{x} h1 h2=>
  qI rfl rfl (by
   have:=f_look (g:=g) (p:=x.toNat) (by lia) (by lia)
   rwa [show((x.toNat:Nat):Int)=x by lia] at this)
 refine bq rfl (b7 (cN (fl rfl) (by show some (D.int (g.ld.map D.int).length)=_;rw[List.length_map])) (b7 (lS hi (by rw[c_];lia) (λx=>rfl) (λx mx=>by
  have hx:=dX.mp mx;apply bA (qI rfl (look (by lia) (by lia)) aeD))) (cu ?_)))
 have hw:bC Ja (ao (aj 1) (ao (bN "Gate" "bad" zY (aj 0) aA) (ao (aj 2) (ao (e2 fC (bU "Gate" "numbers" (aj 0)) (eC (.int 1))) aA)))) [some (gD g,.sh []),some (.int g.ld.length,.own),some (iL (jc g),.own)]=some (iL (rQ g),.own):=
  bP (by
   rw[aM,aM,fB rfl (xY hl)];rfl) (by
   have:=aaT (size:=g.ld.length) (bad:=t_ g) (ks:=jc g) hh (by have:=yk (g:=g).2.2;lia);simp only[aaB,aiY];rw[abc];apply this)
 have hc:=kH (js:=[none,some 0]) (g:=gN 0) (tt:=lU) (k:=λd=>match d with | .int p=>some (tD (ic g p.toNat)) | _=>none) (gX hw) (by rw[List.length_map];apply size_le (by have:=Y4 (size:=g.ld.length) (bad:=t_ g) (ks:=jc g) hh (by have:=yk (g:=g).2.2;lia);show(W _ _ _ _).length<=_;lia)) (λd m=>by
  let#[x,mx,rfl]:=acg.mp m;have:=(Oz).1.bd x mx;have:=OL (g:=g);apply nL rfl rfl (look (by lia) (by lia)))
 rw[agX] at hc;have e:(rQ g).filterMap ((λd=>match d with|.int p=>some (tD (ic g p.toNat))|_=>none) ∘ D.int)=g9 (qJ g):=by
  unfold qJ g9;rw[adK];apply nj (λp:Int=>tD (ic g p.toNat)) _
 rw[e] at hc;apply hc
def pB(h:fv Y=some (d,t))(h0:Y[0]? = some (some (gD g,.own)))(ho:(kj t||aH d)=true)(e:dY f d (gF g)=gF g'):lE (yw 0 "Gate" f fv) Y=some (.nx (cP Y 0 (gD g'))):=by
 refine jG ?_;unfold yw;rw[h,h0];show(if("Gate":Str)="Gate"/\(gF g).length<1000/\(kj t||aH d)=true then some (Out.nx (cP Y 0 (.ins "Gate" (dY f d (gF g))))) else none)=_;rw[if_pos #[rfl,by show 12<1000;decide,ho],e];rfl
def xo(h0:Y[0]? = some (some (gD g,.own)))(h:F (gD g) []=some (r,gD g'))(hm:(gF g).lookup m=none:=by rfl):xO 0 "Gate" m F aA Y=some (r,cP Y 0 (gD g')):=by
 unfold xO;rw[h0];show(if("Gate":Str)="Gate"/\(gF g).lookup m=none/\apart 0 []=true then(F (gD g) []).map _ else none)=_;rw[if_pos #[rfl,hm,rfl],h];rfl
def CN(h:fv Y=some (d,t))(hk:fk Y=some (.int x,t2))(h0:Y[0]? = some (some (gD g,.own)))(hi:aH d=true)(hG:aP (g.gr.map (·.2))=true)(hl:g.gr.length<=100):uN 0 "Gate" "grounds" fk fv Y=some (.nx (cP Y 0 (gD { g with gr:=putD g.gr (Sum.inl x) d }))):=by
 unfold uN;rw[h,h0,hk];show(if("Gate":Str)="Gate" then(if(aH d&&aP (g.gr.map (·.2))&&decide (g.gr.length<sizeLine))=true then some (Out.nx (cP Y 0 (.ins "Gate" (dY "grounds" (.bS (putD g.gr (Sum.inl x) d)) (gF g))))) else none) else none)=_;rw[if_pos rfl,hi,hG,aaC (size_le (by lia)),if_pos (show(true&&true&&true)=true from rfl)];rfl
def Ka(h:f Y=some (d,t)):lE (dw i f) Y=some (.nx (jt Y i d t)):=jG (by unfold dw;rw[h])
def tK(h:tf Y=some true)(h2:sf Y=r):dN tf sf sg Y=r:=by rw[iO,h];apply h2
def JW(h:tf Y=some false)(h2:sg Y=r):dN tf sf sg Y=r:=by rw[iO,h];apply h2
def Tv:gG ((x::r).map D.int) 0=some (.int x):=by
 unfold gG qv;rw[if_pos (by omega),if_pos (by rw[List.length_map,acF];omega)];rfl
def gone(C:List Ch)(gr:List (Key×D))(x:Int):List Int:=(lean (sec C) x).filter (bB gr)
def gu(C:List Ch)(gr:List (Key×D))(x:Int):List (Key×D):=match gone C gr x with
 |[]=>gr
 |y::_=>putD gr (Sum.inl x) (.tup [.str "leans",.int y])
theorem F8{g:G}(gc:GoodC Sl g.C):∀{l} {gr} {s1 s2},Row g.C l->Gr g.C.length gr->∃qP KQ,dD (gN 1) (.sh []) (cz (dw 2 (eW [none,some 0] (fG (bN "Changes" "leans_of" Dt (bU "Gate" "known" (aj 0)) (ao (aj 1) aA))) (gN 0) (tV (e2 (pF false) (aj 0) (bU "Gate" "grounds" (aj 1)))) (aj 0))) (dN (mG (aj 2)) (uN 0 "Gate" "grounds" (aj 1) (ia (ao (eC (.str "leans")) (ao (e2 fC (aj 2) (eC (.int 0))) aA)))) eO)) (l.map D.int) [some (gD { g with gr:=gr },.own),s1,s2]=some (.nx [some (gD { g with gr:=l.foldl (gu g.C) gr },.own),qP,KQ])
 |[],gr,s1,s2,_,_=>#[s1,s2,rfl]
 |x::l,gr,s1,s2,h,k=>by
  have hx:=h x aah;have hc:eW [none,some 0] (fG (bN "Changes" "leans_of" Dt (bU "Gate" "known" (aj 0)) (ao (aj 1) aA))) (gN 0) (tV (e2 (pF false) (aj 0) (bU "Gate" "grounds" (aj 1)))) (aj 0) [some (gD { g with gr:=gr },.own),some (.int x,.sh []),s2]=some (iL (gone g.C gr x),.own):=
   lS (gX (Ej (fl rfl) rfl (Fx hx.1 hx.2))) (by have:=gc.few x;lia) (λy=>rfl) (λy _=>bA (aQ rfl (fl rfl) rfl))
  cases e:gone g.C gr x with
  |nil=>
   let#[a,b,ih]:=F8 gc (λy m=>h y (aab _ m)) k;refine#[a,b,(jx rfl (b7 (e ▸ hc) rfl)).trans (ih.trans ?_)];rw[aeO,show gu g.C gr x=gr by unfold gu;rw[e]]
  |cons y r=>
   have k':Gr g.C.length (gu g.C gr x):=by unfold gu;rw[e];apply k.put (dX.mpr (by lia)) rfl
   let#[a,b,ih]:=F8 gc (λy m=>h y (aab _ m)) k';refine#[a,b,(jx rfl (b7 (e ▸ hc) (tK rfl ((CN (d:=.tup [.str "leans",.int y]) (t:=.own) ?_ rfl rfl rfl k.im (by have:=k.len;have:=gc.ln;show gr.length<=100;lia)).trans ?_)))).trans ih]
   .rw[m6,aM,aM,aQ rfl rfl (uF Tv rfl)];rfl
   .unfold gu;rw[e];rfl
def gY(g:G):G:={ g with gr:=(wl g).foldl (gu g.C) g.gr }
def abq(gc:GoodC Sl g.C)(k:Gr g.C.length g.gr):EM (gD g) []=some (.aC,gD (gY g)):=by
 let#[a,b,e]:=F8 gc gq k;apply qw rfl (jG (lM (gX (fB rfl (CH (by have:=gc.ln;lia)))) e)) rfl
theorem Tg:∀{l:List Int} {gr},Gr n gr->(∀x∈l,x∈aJ 1 n)->Gr n (l.foldl (gu C) gr)/\(∀x,bB gr x=true->bB (l.foldl (gu C) gr) x=true)/\(∀x,bB (l.foldl (gu C) gr) x=true->bB gr x=true\/x∈l)
 |[],gr,k,_=>#[k,λ_ h=>h,λ_ h=>.inl h]
 |x::l,gr,k,h=>by
  have k1:Gr n (gu C gr x)/\(∀y,bB gr y=true->bB (gu C gr x) y=true)/\∀y,bB (gu C gr x) y=true->bB gr y=true\/y=x:=by
   unfold gu
   split
   .exact#[k,λ_ h=>h,λ_ h=>.inl h]
   .refine#[k.put (h x aah) rfl,λy q=>by rw[tY,q,Bool.or_true],λy q=>?_];rw[tY,aiR,decide_eq_true_eq] at q;apply q.symm
  let#[a,b,c]:=Tg k1.1 λy m=>h y (aab _ m)
  refine#[a,λy q=>b y (k1.2.1 y q),λy q=>?_];rcases c y q with q|q
  .exact(k1.2.2 y q).imp id λe=>by rw[e];apply aah
  .exact .inr (aab _ q)
def lay_ints(l:List Int):dg (iL l)=true:=by
 unfold dg;have c1:gb (iL l)=true:=by unfold iL;unfold gb;apply Cz _
 have c0:py (iL l)=.list (l.map PyData.int):=by unfold iL;unfold py;rw[yp]
 rw[c1,c0];have c2:(PyData.list (l.map PyData.int)).canLay0=true:=by simp only[PyData.canLay0];apply B6 l
 have c3:(PyData.list (l.map PyData.int)).depth<=40:=by simp only[PyData.depth,depthAll_ints];lia
 rw[c2,aaC c3];rfl
def ZI(a b:List Int):PyData.eqv (py (iL a)) (py (iL b))=decide (a=b):=by
 have c:∀l,py (iL l)=.list (l.map PyData.int):=λl=>by unfold iL;unfold py;rw[yp]
 rw[c,c];simp only[PyData.eqv,KS]
def Oc(a b:List Int):nS (iL a) (iL b)=some (.bl (!decide (a=b))):=by
 unfold nS;rw[lay_ints,lay_ints,ZI];rfl
def slots(C:List Ch):List Int:=C.flatMap λc=>c.2.2.map (·.1)
structure Gd(g:G):Prop where
 w1:1<=g.w/\g.w<=16
 h1:1<=g.h/\g.h<=8
 nt:1<=g.n/\g.n<=g.t/\g.t<=20
 gc:GoodC (slots g.C) g.C
 row:Row g.C (g.ln++g.ld)
 nd:(g.ln++g.ld).Nodup
 xr:(g.ld.length:Int)<=g.w
 ue:∀x∈g.ln++g.ld,fX g x=false
 gr:Gr g.C.length g.gr
 run:∃v,fu [] (eV g.C (g.ln++g.ld))=some v
def Gd.len(k:Gd g):g.ln.length+g.ld.length<=60:=by
 have:=sub_len k.nd λx m=>dX.mpr (show 1<=x/\x<1+(g.C.length:Int) by have:=k.row x m;lia)
 rw[c_,aa3] at this;have:=k.gc.ln
 lia
theorem Uo:∀{a b} {v},(∃w,fu v (eV C (a++b))=some w)->∃w,fu v (eV C a)=some w
 |[],b,v,_=>#[v,rfl]
 |x::a,b,v,#[w,h]=>by
  have h:(if bad v (cG C x)=[] then fu (iu v (cG C x)) (eV C (a++b)) else none)=some w:=h;show ∃w,(if bad v (cG C x)=[] then fu (iu v (cG C x)) (eV C a) else none)=some w
  by_cases hb:bad v (cG C x)=[]
  .rw[if_pos hb] at h ⊢;apply Uo #[w,h]
  .rw[abo hb] at h;ext h
def Gd.cut(k:Gd g){gr:List (Key×D)}(hp:ld <+: g.ld)(hg:Gr g.C.length gr)(hd:∀x∈g.ln++ld,bB gr x=false):Gd { g with ld:=ld,gr:=gr }:=by
 let#[r,e]:=hp;have ea:g.ln++g.ld=(g.ln++ld)++r:=by rw[<- e,ae4]
 refine#[k.w1,k.h1,k.nt,k.gc,λx m=>k.row x (by rw[ea];apply aa4 _ m),?_,?_,hd,hg,Uo (by rw[<- ea];apply k.run)]
 .have:=k.nd;rw[ea] at this;apply(adQ.mp this).1
 .have:=k.xr;rw[<- e,aa3] at this
  lia
def ne1:nS (bD o) (.int 1)=some (.bl (!decide (o=some 1))):=by
 cases o with
 |none=>kernel_rfl
 |some p=>
  show(if(dg (.int p)&&dg (.int 1))=true then some (D.bl (!PyData.eqv (py (.int p)) (py (.int 1)))) else none)=_;have e:dg (.int (p:Int))=true:=by unfold dg;simp[gb,py,PyData.canLay0,PyData.depth]
  have e1:dg (.int 1)=true:=by unfold dg;simp[gb,py,PyData.canLay0,PyData.depth]
  rw[e,e1];simp only[py,PyData.eqv,ahl,if_true]
  by_cases h:p=1
  .subst h;rfl
  .rw[aa8 (λz=>h (ach z)),show(((p:Int)==1)=false) from ad3.mpr (by lia)]
def MG(hl:g.ln.length+g.ld.length<=900):tV (e2 nS (bN "Gate" "bad" zY (aj 0) aA) (eC (.int 1))) (some (gD g,.own)::s)=some (!decide (dM g=some 1)):=
 bA (aQ (fB rfl (xY hl)) rfl ne1)
def OM(hl:g.ln.length+g.ld.length<=900)(h:dM g≠some 1):TR (gD g) []=some (.bl false,gD g):=by
 have ht:=MG hl (s:=[none]);rw[aa8 h] at ht;apply lX rfl (qC ht (jX rfl))
def pH(g:G):D:=.tup [.str "look",tD g.ln,tD (ic g 1),.str (wd g (ic g 1))]
def Rc:aH (pH g)=true:=by
 unfold pH tD;simp only[aH,aP,fm,ahl]
def iJ(g:G)(x:Int):G:={ g with ld:=[],gr:=putD g.gr (Sum.inl x) (pH g) }
def WH(k:Gd g)(h:dM g=some 1)(hx:g.ld=x::r):TR (gD g) []=some (.bl true,gD (iJ g x)):=by
 have hl:=k.len;have ht:=MG (g:=g) (by lia) (s:=[none]);rw[aaC h] at ht;have h1:bN "Gate" "look_of" zI (aj 0) (ao (eC (.int 1)) aA) [some (gD g,.own),none]=some (tD (ic g 1),.own):=qI rfl rfl (f_look (by rw[hx,acF];lia) (by lia));have e1:∃t,ia (ao (eC (.str "look")) (ao (e1 BW (bU "Gate" "on_line" (aj 0))) (ao (aj 1) (ao (bN "Gate" "word_of" Ac (aj 0) (ao (aj 1) aA)) aA)))) [some (gD g,.own),some (tD (ic g 1),.own)]=some (pH g,t):=by
  rw[m6,aM,aM,aM,aM,cN (fl rfl) CS,qI rfl rfl JQ];apply#[_,rfl]
 let#[t,e1]:=e1;apply lX rfl (bZ ht (sq (Ka h1) (sq (jG (CN e1 (aQ (fl rfl) rfl (uF (by rw[hx];apply Tv) rfl)) rfl Rc k.gr.im (by have:=k.gr.len;have:=k.gc.ln;lia))) (sq (pB rfl rfl rfl rfl) rfl))))
def Nj:Ev.mG (bU "Gate" "laid_ones" (aj 0)) (some (gD g,.own)::s)=some (!g.ld.isEmpty):=by
 unfold Ev.mG;rw[fl rfl];cases g.ld<;>rfl
def OX(h:g.ld≠[]):DU (gD g) []=some (.bl false,gD g):=by
 have ht:=Nj (g:=g) (s:=[none,none,none]);rw[show g.ld.isEmpty=false from List.isEmpty_eq_false_iff.mpr h] at ht;apply lX rfl (qC ht (jX rfl))
def QA(l:List Int):aH (vO l)=true:=by ext l<;>rfl
def ow(C:List Ch)(u:kY)(gr:List (Key×D))(x:Int):List (Key×D):=putD gr (Sum.inl x) (.tup [.str "unfit",vO (bad u (cG C x))])
def TU(g:GoodC Sl C)(x:Int):JG [dS (nz v),eL (cG C x)]=some (vO (bad (iE (nz v)) (cG C x))):=
 bq rfl (cu (bP (ps:=[(cM (iE (nz v)),.own),(eL (cG C x),.sh [])]) (by rw[aM,aM,cN rfl MD];rfl) (D0 (g.ed x).ed (by lia) D.lst rfl)))
theorem Lp{g:G}(gc:GoodC Sl g.C):∀{l} {gr} {s3},Row g.C l->Gr g.C.length gr->∃xh,dD (gN 3) (.sh [1]) (uN 0 "Gate" "grounds" (aj 3) (ia (ao (eC (.str "unfit")) (ao (bC JG (ao (aj 2) (ao (bN "Changes" "edits_of" yu (bU "Gate" "known" (aj 0)) (ao (aj 3) aA)) aA))) aA)))) (l.map D.int) [some (gD { g with gr:=gr },.own),some (iL N,.lk),some (dS (nz v),.own),s3]=some (.nx [some (gD { g with gr:=l.foldl (ow g.C (iE (nz v))) gr },.own),some (iL N,.lk),some (dS (nz v),.own),xh])
 |[],gr,s3,_,_=>#[s3,rfl]
 |x::l,gr,s3,h,k=>by
  have hx:=h x aah;let#[a,ih]:=Lp gc (gr:=ow g.C (iE (nz v)) gr x) (λy m=>h y (aab _ m)) (k.put (dX.mpr (by lia)) (by simp only[aH,aP,QA,ahl]));refine#[a,(jx (bf:=[some (gD { g with gr:=gr },.own),some (iL N,.lk),some (dS (nz v),.own),some (.int x,.sh [1])]) rfl ((CN (g:={ g with gr:=gr }) (t:=.own) ?_ rfl rfl (by simp only[aH,aP,QA,ahl]) k.im (by have:=k.len;have:=gc.ln;show gr.length<=100;lia)).trans rfl)).trans ih];rw[m6,aM,aM,bP (by rw[aM,aM,Ej (fl rfl) rfl (xW hx.1 hx.2)];rfl) (TU gc x)];rfl
def aY(g:G):List Int:=(wl g).filter (iM g.C g.ln)
def X3(k:Gd g)(h:g.ld=[]):∃u v,fu [] (eV g.C g.ln)=some v/\(∀E,bad u E=bad v E)/\DU (gD g) []=some (.bl (!decide (aY g=[])),gD { g with gr:=(aY g).foldl (ow g.C u) g.gr }):=by
 have hl:=k.len;have gl:=k.gc.ln;have ht:=Nj (g:=g) (s:=[none,none,none]);rw[h] at ht;let#[v,hv]:=k.run;rw[h,acw] at hv;have hw:=Cf (g:=g);have h1:bC AE (ao (bU "Gate" "known" (aj 0)) (ao (bU "Gate" "on_line" (aj 0)) (ao (eZ aA) (ao (bN "Gate" "waiting" B0 (aj 0) aA) aA)))) [some (gD g,.own),none,none,none]=some (iL (aY g),.own):=
  bP (by rw[aM,aM,aM,aM,fB rfl (CH (by lia))];rfl) (by
   have:=Iw k.gc (a:=g.ln) (b:=[]) (by simp;lia) gq (by lia);rw[acw] at this;apply this)
 have hs:=zL k.gc (λx m=>k.row x (aa4 _ m)) (by lia) hv;have h2:bN "Gate" "sheet" ae1 (aj 0) aA [some (gD g,.own),some (iL (aY g),.own),none,none]=some (dS (nz v),.own):=fB rfl (bq rfl (cu (bP rfl hs.1)));let#[s3,lp]:=Lp k.gc (λx m=>gq x (adh.mp m).1) k.gr;refine#[iE (nz v),v,hv,λE=>JN (HC hs.2.nd) E,lX rfl (bZ ht (sq (Ka h1) (sq (Ka h2) (sq (Y':=[some (gD { g with gr:=(aY g).foldl (ow g.C (iE (nz v))) g.gr },.own),some (iL (aY g),.own),some (dS (nz v),.own),s3]) (jG ((AQ (gX rfl) lp).trans rfl)) ?_))))];unfold wj;have:e2 nS (aj 1) (eZ aA) [some (gD { g with gr:=(aY g).foldl (ow g.C (iE (nz v))) g.gr },.own),some (iL (aY g),.own),some (dS (nz v),.own),s3]=some (.bl (!decide (aY g=[])),.own):=aQ (d2:=iL []) rfl rfl (Oc _ _);rw[this];rfl
def Jb(hl:g.ln.length+g.ld.length<=900):tV (e2 jv (bN "Gate" "bad" zY (aj 0) aA) (eC .aC)) (some (gD g,.own)::s)=some (dM g).isNone:=
 bA (aQ (fB rfl (xY hl)) rfl (by cases dM g<;>rfl))
def IW(h:f Y=some (r,[some (gD g',.own)])):Af f [0] Y=some (.rt (.tup [r,gD g'])):=by
 unfold Af;rw[h];rfl
def RS(h:f Y=some (.bl false,Y'))(h2:f2 Y'=some (.bl b,bI)):wz f f2 Y=some (.bl b,bI):=by
 unfold wz;rw[h];dsimp only;rw[h2]
def orT(h:f Y=some (.bl true,Y')):wz f f2 Y=some (.bl true,Y'):=by
 unfold wz;rw[h]
def cK(g:G)(ex:List Int):G:={ g with ld:=g.ld++ex }
def abO(k:Gd g)(F:Fl g.C g.ln g.ld (wl g) g.w ex):Gd (cK g ex):=by
 refine#[k.w1,k.h1,k.nt,k.gc,λx m=>?_,?_,?_,λx m=>?_,k.gr,let#[v,h,_]:=F.run;#[v,h]]
 .have m:x∈g.ln++(g.ld++ex):=m;rw[<- ae4] at m;apply(abC.mp m).elim (k.row x) λm=>gq (g:=g) x (F.sub x m)
 .show(g.ln++(g.ld++ex)).Nodup;rw[<- ae4];refine adQ.mpr #[k.nd,F.nd,λa ma b mb e=>?_];have:=mZ.mp (F.sub b mb);apply(abC.mp ma).elim (λm=>this.2.1 (e ▸ m)) λm=>this.2.2.1 (e ▸ m)
 .show(((g.ld++ex).length:Nat):Int)<=g.w;rcases F.le with q|q
  .exact q
  .rw[q,acw];apply k.xr
 .have m:x∈g.ln++(g.ld++ex):=m;rw[<- ae4] at m;apply(abC.mp m).elim (k.ue x) λm=>(mZ.mp (F.sub x m)).2.2.2
def afU(k:Gd g)(hb:dM g=some 1)(hx:g.ld=x::r):pW (gD g) []=some (.bl true,gD (iJ g x)):=by
 have hl:=k.len;have ht:=Jb (g:=g) (by lia) (s:=[]);rw[hb] at ht;apply lX rfl (bZ ht (IW (orT (xo rfl (WH k hb hx)))))
def ac4(k:Gd g)(hb:dM g=some p)(hp:p≠1):pW (gD g) []=some (.bl false,gD g):=by
 have hl:=k.len;have ht:=Jb (g:=g) (by lia) (s:=[]);have hm:=Jr hb;have xP:g.ld≠[]:=λe=>by rw[e] at hm;simp at hm;lia
 have hn:dM g≠some 1:=by rw[hb];apply λz=>hp (ach z)
 rw[hb] at ht;apply lX rfl (bZ ht (IW (RS (xo rfl (OM (by lia) hn)) (xo rfl (OX xP)))))
def zC(k:Gd g)(hb:dM g=none):∃ex,Fl g.C g.ln g.ld (wl g) g.w ex/\Gd (cK g ex)/\(dM (cK g ex)≠some 1->(g.ld++ex≠[]->pW (gD g) []=some (.bl false,gD (cK g ex)))/\
  (g.ld++ex=[]->∃u v,fu [] (eV g.C g.ln)=some v/\(∀E,bad u E=bad v E)/\pW (gD g) []=some (.bl (!decide (aY g=[])),gD { g with gr:=(aY g).foldl (ow g.C u) g.gr }))):=by
 have hl:=k.len;have gl:=k.gc.ln;have ht:=Jb (g:=g) (by lia) (s:=[]);rw[hb] at ht;let#[v,hv]:=k.run;have aie:=Cf (g:=g);let#[ex,hf,F]:=Xn k.gc k.row gq yF (by lia) (by lia) hv;have hf:bC Ek (ao (bU "Gate" "known" (aj 0)) (ao (bU "Gate" "on_line" (aj 0)) (ao (bU "Gate" "laid_ones" (aj 0)) (ao (bN "Gate" "waiting" B0 (aj 0) aA) (ao (e2 fC (bU "Gate" "numbers" (aj 0)) (eC (.int 0))) aA))))) [some (gD g,.own)]=some (iL (g.ld++ex),.own):=
  bP (ps:=[(obj g.C,.sh [0]),(iL g.ln,.sh [0]),(iL g.ld,.sh [0]),(iL (wl g),.own),(.int g.w,.own)]) (by rw[aM,aM,aM,aM,fB rfl (CH (by lia))];rfl) hf
 have k1:=abO k F;have vd:=k1.len;have st:lE (yw 0 "Gate" "laid_ones" (bC Ek (ao (bU "Gate" "known" (aj 0)) (ao (bU "Gate" "on_line" (aj 0)) (ao (bU "Gate" "laid_ones" (aj 0)) (ao (bN "Gate" "waiting" B0 (aj 0) aA) (ao (e2 fC (bU "Gate" "numbers" (aj 0)) (eC (.int 0))) aA))))))) [some (gD g,.own)]=some (.nx [some (gD (cK g ex),.own)]):=pB hf rfl rfl rfl;refine#[ex,F,k1,λh1=>?_];have PM:∀b g',DU (gD (cK g ex)) []=some (.bl b,gD g')->pW (gD g) []=some (.bl b,gD g'):=λb g' h=>lX rfl (sq (tK ht st) (IW (RS (xo rfl (OM (by lia) h1)) (xo rfl h))))
 refine#[λhe=>PM _ _ (OX he),λhe=>?_];have e1:cK g ex=g:=by
  unfold cK;rw[he,<- (ag4.mp he).1]
 let#[u,v1,a,b,h]:=X3 k1 he;rw[e1] at a h;apply#[u,v1,a,b,PM _ _ (by rw[e1];apply h)]
def cI(g:G):G:={ g with lk:=qJ g }
abbrev cS:aU->Option (Bool×aU):=oG (iW (tV (bU "Gate" "halted" (aj 0)))) (tZ (xO 0 "Gate" "put_out_more" pW aA))
def Qa:iW (tV (bU "Gate" "halted" (aj 0))) [some (gD g,.own)]=some (!g.ht):=kN (bA (fl rfl))
def adI(h:g.ht=true):cS [some (gD g,.own)]=some (false,[some (gD g,.own)]):=by
 have:=Qa (g:=g);rw[h] at this;unfold cS oG;rw[this];rfl
def ahc(h:f Y=some (.bl b,Y')):tZ f Y=some (b,Y'):=by unfold tZ;rw[h]
def S3(h:g.ht=false)(hm:pW (gD g) []=some (.bl b,gD g1)):cS [some (gD g,.own)]=some (b,[some (gD g1,.own)]):=by
 have:=Qa (g:=g);rw[h] at this;refine Eq.trans ?_ (ahc (xo (Y:=[some (gD g,.own)]) (m:="put_out_more") rfl hm));unfold cS oG;rw[this];rfl
def NO(h:c Y=some (false,bf)):lV c f (n+1) Y=some (.nx bf):=by rw[lV,h]
def V0(h:c Y=some (true,bf))(h2:f bf=some (.nx bI)):lV c f (n+1) Y=lV c f n bI:=by
 rw[lV,h];dsimp only;rw[h2]
def MJ(k:Gd g):sZ (xO 0 "Gate" "put_out_leaning" EM aA) [some (gD g,.own)]=some (.nx [some (gD (gY g),.own)]):=by
 unfold sZ;rw[xo rfl (abq k.gc k.gr)];rfl
def Lf(g:G):Prop:=∀x∈wl g,∀y∈lean (sec g.C) x,fX g y=false
def nI(lf:Lf g):gY g=g:=by
 have:∀l:List Int,(∀x∈l,x∈wl g)->l.foldl (gu g.C) g.gr=g.gr:=λl=>by
  induction l with
  |nil=>intro _;rfl
  |cons x l ih=>
   intro h;have e:gu g.C g.gr x=g.gr:=by
    unfold gu;rw[show gone g.C g.gr x=[] from ah5.mpr λy my=>by rw[show bB g.gr y=false from lf x (h x aah) y my];apply aa2]
   rw[aeO,e];apply ih λy m=>h y (aab _ m)
 unfold gY;rw[this (wl g) λx m=>m]
inductive Ru:G->G->Nat->Prop
 |ht {g:G} (h:g.ht=true):Ru g g 0
 |no {g g1:G} (h:g.ht=false) (e:pW (gD g) []=some (.bl false,gD g1)):Ru g g1 0
 |yes {g g1 g2:G} (h:g.ht=false) (e:pW (gD g) []=some (.bl true,gD g1)) (k:Gd g1) (r:Ru (gY g1) g2 n):Ru g g2 (n+1)
theorem Mr:∀{n:Nat}{g g1:G}{m:Nat},Ru g g1 n->n<m->lV cS (sZ (xO 0 "Gate" "put_out_leaning" EM aA)) m [some (gD g,.own)]=some (.nx [some (gD g1,.own)])
 |0,g,g1,m+1,r,_=>by
  cases r with
  |ht h=>apply NO (adI h)
  |no h e=>apply NO (S3 h e)
 |n+1,g,g1,m+1,r,hm=>by
  cases r with
  |yes h e k r=>apply(V0 (S3 h e) (MJ k)).trans (Mr r (by lia))
def mX(k:Gd g)(r:Ru (gY g) g1 n)(hn:n<4000)(k1:Gd g1):oH (gD g) []=some (.aC,gD (cI g1)):=by
 have hl:=k1.len;have gl:=k1.gc.ln;apply qw rfl (sq (jG (MJ k)) (sq (jG (Mr r hn)) (pB (fB rfl (Yz (by lia) (by lia) (by have:=k1.h1;lia))) rfl rfl rfl))) rfl
def J9(h:fv Y=some (.int j,t))(h0:Y[0]? = some (some (gD g,.own)))(hl:(gF g).lookup f=some (.int i))(e:dY f (.int (i+j)) (gF g)=gF g'):lE (By 0 "Gate" f fv) Y=some (.nx (cP Y 0 (gD g'))):=by
 refine jG ?_;unfold By;rw[h,h0];show(if("Gate":Str)="Gate"/\(gF g).length<1000 then(match(gF g).lookup f with|some (.int k)=>some (Out.nx (cP Y 0 (.ins "Gate" (dY f (.int (k+j)) (gF g)))))|_=>none) else none)=_;rw[if_pos #[rfl,by show 12<1000;decide],hl];dsimp only;rw[e];rfl
def xV(h0:Y[0]? = some (some (gD g,.own)))(h:F (gD g) []=some (r,gD g'))(hm:(gF g).lookup m=none:=by rfl):lE (sZ (xO 0 "Gate" m F aA)) Y=some (.nx (cP Y 0 (gD g'))):=jG (by
 unfold sZ;rw[xo h0 h hm];rfl)
def cY(g:G):G:={ g with ld:=[],ht:=true,br:=g.br+1 }
def P5(h:oH (gD (cY g)) []=some (.aC,gD g3)):Cu (gD g) []=some (.aC,gD g3):=
 qw rfl (sq (pB rfl rfl rfl rfl) (sq (pB (g:={ g with ld:=[] }) rfl rfl rfl rfl)
  (sq (J9 (g:={ g with ld:=[],ht:=true }) rfl rfl rfl rfl) (xV rfl h)))) rfl
def YX(h:oH (gD { g with ht:=false }) []=some (.aC,gD g3)):Gs (gD g) []=some (.aC,gD g3):=
 qw rfl (sq (pB rfl rfl rfl rfl) (xV rfl h)) rfl
def fJ(g:G)(c:Ch):G:={ g with C:=g.C++[c] }
def acv(hl:l.length<=100)(hE:E.length<=100)(hm:nH g.C.length q l E=true)(hC:g.C.length<60)(h:oH (gD (fJ g (q,l,E))) []=some (.aC,gD g3)):jC (gD g) [.int q,iL l,eL E]=some (.int (g.C.length+1),gD g3):=by
 have h1:Aj 0 "Gate" "known" "Changes" "added" B9 (ao (aj 1) (ao (aj 2) (ao (aj 3) aA))) [some (gD g,.own),some (.int q,.sh []),some (iL l,.sh []),some (eL E,.sh []),none]=some (.int (g.C.length+1),[some (gD (fJ g (q,l,E)),.own),some (.int q,.sh []),some (iL l,.sh []),some (eL E,.sh []),none]):=by
  show(if("Gate":Str)="Gate"/\("Changes":Str)="Changes"/\([("entries",D.lst (g.C.map ent))]:List (Str×D)).lookup ("added":Str)=none/\apart 0 [(.int q,.sh []),(iL l,.sh []),(eL E,.sh [])]=true then(B9 (obj g.C) [.int q,iL l,eL E]).map _ else none)=_;rw[if_pos #[rfl,rfl,rfl,rfl],agW hl hE hm hC];rfl
 refine lX rfl (sq (Y':=[some (gD (fJ g (q,l,E)),.own),some (.int q,.sh []),some (iL l,.sh []),some (eL E,.sh []),some (.int (g.C.length + 1),.own)]) (jG (by
  show(match Aj 0 "Gate" "known" "Changes" "added" B9 (ao (aj 1) (ao (aj 2) (ao (aj 3) aA))) [some (gD g,.own),some (.int q,.sh []),some (iL l,.sh []),some (eL E,.sh []),none] with|some (d,Y')=>some (Out.nx (jt Y' 4 d .own))|none=>none)=_;rw[h1];rfl)) (sq (xV rfl h) rfl))
def fQ(g:G)(x:Int):G:={ g with ld:=if x∈g.ld then g.ld.takeWhile (λy=>!(y==x)) else g.ld,gr:=putD g.gr (Sum.inl x) (.tup [.str "withdrawn"]),br:=g.br+1 }
theorem GN:∀{l:List Int} {x},x∈l->l.findIdx? (· == x)=some (l.takeWhile λy=>!(y==x)).length
 |[],x,m=>nomatch m
 |a::l,x,m=>by
  rw[List.findIdx?_cons,List.takeWhile_cons];cases e:(a==x) with
  |true=>rfl
  |false=>
   rw[GN ((aaO.mp m).resolve_left λq=>by rw[q] at e;simp at e)];rfl
def zy{x:Int}:l.takeWhile (λy=>!(y==x)) <+: l:=List.takeWhile_prefix _
def afb{l:List Int}:l.take (l.takeWhile λy=>!(y==x)).length=l.takeWhile λy=>!(y==x):=by
 let#[r,e]:=zy (l:=l) (x:=x)
 conv=>lhs;rw[<- e]
 rw[e];apply(List.prefix_iff_eq_take.mp (zy)).symm
theorem Mg:∀{l:List Int} {x},x∉l.takeWhile (λy=>!(y==x))
 |[],x,m=>nomatch m
 |a::l,x,m=>by
  rw[List.takeWhile_cons] at m;cases e:(a==x) with
  |true=>rw[e] at m;ext m
  |false=>
   rw[e] at m;rcases aaO.mp m with q|q
   .rw[<- q] at e;simp at e
   .exact Mg q
def aet(k:Gd g)(hx:1<=x/\x<=(g.C.length:Int))(nl:x∉g.ln)(no:fX g x=false)(h:oH (gD (fQ g x)) []=some (.aC,gD g3)):Qv (gD g) [.int x]=some (.aC,gD g3):=by
 have t1:iW (tV (bN "Changes" "has" xH (bU "Gate" "known" (aj 0)) (ao (aj 1) aA))) [some (gD g,.own),some (.int x,.sh [])]=some false:=kN (b:=true) (bA (Ej (fl rfl) rfl ((yI g.C x).trans (by unfold inR;rw[aaC hx.1,aaC hx.2];rfl))));have t2:nY (tV (e2 (ju false) (aj 1) (bU "Gate" "on_line" (aj 0)))) (tV (e2 (pF false) (aj 1) (bU "Gate" "grounds" (aj 0)))) [some (gD g,.own),some (.int x,.sh [])]=some false:=
  (Pp ((bA (aQ rfl (fl rfl) (by unfold iL;rw[yK,abo aa2,Az]))).trans (by rw[aa8 nl]))).trans (bA (aQ rfl (fl rfl) (by show some (D.bl (fX g x))=_;rw[no])))
 have t3:tV (e2 (ju false) (aj 1) (bU "Gate" "laid_ones" (aj 0))) [some (gD g,.own),some (.int x,.sh [])]=some (decide (x∈g.ld)):=bA (aQ rfl (fl rfl) (by unfold iL;rw[yK,abo aa2,Az]));refine qw rfl (bZ t1 (bZ t2 (sq (Y':=[some (gD { g with ld:=(fQ g x).ld },.own),some (.int x,.sh [])]) ?_ (sq (jG (CN rfl rfl rfl rfl k.gr.im (by have:=k.gr.len;have:=k.gc.ln;show g.gr.length<=100;lia)))
  (sq (J9 rfl rfl rfl rfl) (xV rfl h)))))) rfl
 by_cases mx:x∈g.ld
 .rw[aaC mx] at t3;have e1:e2 Cw (bU "Gate" "laid_ones" (aj 0)) (aj 1) [some (gD g,.own),some (.int x,.sh [])]=some (.int (g.ld.takeWhile λy=>!(y == x)).length,.own):=aQ (fl rfl) rfl (by
   show(match eF (g.ld.map D.int) with|some ts=>(ts.findIdx? (· == x)).map λj:Nat=>D.int j|none=>none)=_;rw[sU];dsimp only;rw[GN mx];rfl)
  have c:oY (bU "Gate" "laid_ones" (aj 0)) (e2 Cw (bU "Gate" "laid_ones" (aj 0)) (aj 1)) [some (gD g,.own),some (.int x,.sh [])]=some (iL (fQ g x).ld,.own):=by
   unfold oY;rw[fl rfl,e1];show(if aP (g.ld.map D.int)=true then some (D.lst (cutD (g.ld.map D.int) none (some ((g.ld.takeWhile λy=>!(y==x)).length:Int))),Tag.own) else none)=_;rw[if_pos (fm _),D_ (by rw[List.length_map];apply List.IsPrefix.length_le zy),<- aiT,afb];unfold fQ;rw[if_pos mx];rfl
  apply tK t3 (pB c rfl rfl rfl)
 .rw[aa8 mx] at t3;refine JW t3 ?_;unfold fQ;rw[abo mx];rfl
abbrev hd(ta:Ta)(L:List Int):List Str:=(mR ta L).getD []
def ahL{L:List Int}:(aZ (oV n t ta) (kL L)).getD (tob n t [])=tob n t (hd ta L):=by
 rw[LV];unfold hd;cases mR ta L<;>rfl
def aeg{L:List Int}:putD (oV n t ta) (kL L) (tob n t h)=oV n t (gp ta L h):=Zj (λ_ _=>Bj)
def WM{L:List Int}(hL:L≠[])(k:Gd g)(tn:(g.ta.map (·.1)).Nodup)(tl:g.ta.length<=5000)(hw:w∈(["yes","no","unsure"]:List Str))(hm:word g.n g.t (hd g.ta L)="more"):
  ux "Gate" "tallies" "Tally" "tell" (nA "Tally" Bo (ao (e2 fC (bU "Gate" "numbers" (aj 0)) (eC (.int 2))) (ao (e2 fC (bU "Gate" "numbers" (aj 0)) (eC (.int 3))) aA))) QC [some (gD g,.own),some (tD L,.sh []),some (.str w,.sh []),none,none] =
   some (.nx [some (gD { g with ta:=gp g.ta L (hd g.ta L++[w]) },.own),some (tD L,.sh []),some (.str w,.sh []),none,some (.str (word g.n g.t (hd g.ta L++[w])),.own)]):=by
 have e1:nA "Tally" Bo (ao (e2 fC (bU "Gate" "numbers" (aj 0)) (eC (.int 2))) (ao (e2 fC (bU "Gate" "numbers" (aj 0)) (eC (.int 3))) aA)) [some (gD g,.own),some (tD L,.sh []),some (.str w,.sh []),none,none]=some (tob g.n g.t [],.own):=by
  show(match Bo (.ins "Tally" []) [.int g.n,.int g.t] with|some (.aC,d)=>some (d,Tag.own)|_=>none)=_;rw[aeP k.nt]
 have n1:((oV g.n g.t g.ta).map (·.1)).Nodup:=by
  unfold oV;rw[adK,show((λkv:List Key×D=>kv.1) ∘ λp:List Int×List Str=>(kL p.1,tob g.n g.t p.2))=kL ∘ (·.1) from rfl,<- adK];unfold List.Nodup at tn ⊢;rw[ain];apply tn.imp λq e=>q (Bj e)
 refine(afT rfl rfl rfl rfl rfl (Au _) e1 ahL (VU hw hm (by have:=Wo hm;have:=k.nt;lia)) #[rfl,by unfold kL;rw[aiM];apply aei.mpr λ_ _=>rfl,λz=>hL (List.map_eq_nil_iff.mp z),n1,size_le (by unfold oV;rw[List.length_map];lia),rfl]).trans ?_;rw[aeg];rfl
def jO(g:G)(L:List Int)(w:Str):G:={ g with ta:=gp g.ta L (hd g.ta L++[w]),an:=g.an+1,en:=if(word g.n g.t (hd g.ta L++[w]) == "more")=true then g.en else g.en++[.tup [tD L,.str (word g.n g.t (hd g.ta L++[w]))]] }
def yh(g:G)(L:List Int):G:={ g with ld:=g.ld.drop (L.length-g.ln.length),ln:=L,gw:=g.gw++[L] }
def ace(L:List (List Int)):aP (g9 L)=true:=BC.mpr λd m=>by
 let#[l,_,rfl]:=acg.mp m;apply fm l
def Ye{L:List Int}(h1:g.ln.length<=L.length)(h2:L.length<=g.ln.length+g.ld.length)(hg:g.gw.length<=5000):rP (gD g) [tD L]=some (.aC,gD (yh g L)):=by
 have c:BQ (bU "Gate" "laid_ones" (aj 0)) (e2 lI (e1 fW (aj 1)) (e1 fW (bU "Gate" "on_line" (aj 0)))) [some (gD g,.own),some (tD L,.sh [])]=some (iL (g.ld.drop (L.length-g.ln.length)),.own):=by
  have e1:e2 lI (e1 fW (aj 1)) (e1 fW (bU "Gate" "on_line" (aj 0))) [some (gD g,.own),some (tD L,.sh [])]=some (.int ((L.length-g.ln.length:Nat):Int),.own):=aQ (cN rfl (by show some (D.int (L.map D.int).length)=_;rw[List.length_map])) (cN (fl rfl) (by show some (D.int (g.ln.map D.int).length)=_;rw[List.length_map])) (by show some (D.int (_-_))=_;rw[Int.natCast_sub h1]);unfold BQ;rw[fl rfl,e1];show(if aP (g.ld.map D.int)=true then some (D.lst (cutD (g.ld.map D.int) (some ((L.length-g.ln.length:Nat):Int)) none),Tag.own) else none)=_;rw[if_pos (fm _),Pq (by rw[List.length_map];lia),<- List.map_drop];rfl
 refine qw rfl (sq (pB c rfl rfl rfl) (sq (pB (g:={ g with ld:=g.ld.drop (L.length - g.ln.length) }) (cN rfl O8) rfl rfl rfl) (jG ((Ar (es:=gF { g with ld:=g.ld.drop (L.length - g.ln.length),ln:=L }) rfl rfl rfl ?_).trans (by
  have:gD (yh g L)=.ins "Gate" (dY "grown" (.lst (g9 g.gw++[tD L])) (gF { g with ld:=g.ld.drop (L.length-g.ln.length),ln:=L })):=by
   unfold gD gF yh g9;rw[aea];rfl
  rw[<- this]))))) rfl
 rw[ace,show aH (tD L)=true from fm L,aaC (size_le (by unfold g9;rw[List.length_map];lia))];rfl
def xX(g:G)(L:List Int)(w:Str):G:=if(word g.n g.t (hd g.ta L++[w]) == "yes")=true then yh (jO g L w) L else jO g L w
def NP{L:List Int}(hk:L∈g.lk)(hL:L≠[])(k:Gd g)(tn:(g.ta.map (·.1)).Nodup)(tl:g.ta.length<=5000)(hw:w∈(["yes","no","unsure"]:List Str))(hm:word g.n g.t (hd g.ta L)="more")(em:aP g.en=true)(el:g.en.length<=5000)(gl:g.gw.length<=5000)(h1:g.ln.length<=L.length)(h2:L.length<=g.ln.length+g.ld.length)
  (hs:oH (gD (xX g L w)) []=some (.aC,gD g3)):oX (gD g) [tD L,.str w]=some (.str (word g.n g.t (hd g.ta L++[w])),gD g3):=by
 generalize ew:word g.n g.t (hd g.ta L++[w])=u;have ft:=WM hL k tn tl hw hm;rw[ew] at ft;have hu:∀g':G,lE (sZ (xO 0 "Gate" "grow" rP (ao (aj 1) aA))) [some (gD g',.own),some (tD L,.sh []),some (.str w,.sh []),none,some (.str u,.own)]=(rP (gD g') [tD L]).map λv=>.nx [some (v.2,.own),some (tD L,.sh []),some (.str w,.sh []),none,some (.str u,.own)]:=λg'=>by
  show lE (λY=>(xO 0 "Gate" "grow" rP (ao (aj 1) aA) Y).map λw=>.nx w.2) _=_;have:xO 0 "Gate" "grow" rP (ao (aj 1) aA) [some (gD g',.own),some (tD L,.sh []),some (.str w,.sh []),none,some (.str u,.own)]=(rP (gD g') [tD L]).map λv=>(v.1,cP [some (gD g',.own),some (tD L,.sh []),some (.str w,.sh []),none,some (.str u,.own)] 0 v.2):=by
   show(if("Gate":Str)="Gate"/\(gF g').lookup ("grow":Str)=none/\apart 0 [(tD L,.sh [])]=true then _ else none)=_;rw[if_pos #[rfl,rfl,rfl]];rfl
  unfold lE;dsimp only;rw[this];cases rP (gD g') [tD L]<;>rfl
 refine lX rfl (bZ (bA (aQ rfl (fl rfl) ((SV true L g.lk).trans (by rw[aaC hk];rfl)))) (sq ft (sq (Y':=[some (gD { g with ta:=gp g.ta L (hd g.ta L++[w]),an:=g.an+1 },.own),some (tD L,.sh []),some (.str w,.sh []),none,some (.str u,.own)]) (J9 rfl rfl rfl rfl) (sq (Y':=[some (gD (jO g L w),.own),some (tD L,.sh []),some (.str w,.sh []),none,some (.str u,.own)]) ?_ (sq (Y':=[some (gD (xX g L w),.own),some (tD L,.sh []),some (.str w,.sh []),none,some (.str u,.own)]) ?_ (sq (xV rfl hs) rfl))))))
 .have ht:tV (e2 k9 (aj 4) (eC (.str "more"))) [some (gD { g with ta:=gp g.ta L (hd g.ta L++[w]),an:=g.an+1 },.own),some (tD L,.sh []),some (.str w,.sh []),none,some (.str u,.own)]=some (!(u == "more")):=rfl;unfold jO;rw[ew];cases e:(u==("more":Str)) with
  |true=>rw[e] at ht;rw[iO,ht];rfl
  |false=>
   rw[e] at ht;refine tK ht (jG ((Ar (d:=.tup [tD L,.str u]) rfl rfl rfl ?_).trans ?_))
   .have:aH (.tup [tD L,.str u])=true:=by unfold tD;simp only[aH,aP,fm,ahl]
    rw[this,em,aaC (size_le (by lia))];rfl
   .rfl
 .have ht:tV (e2 oEq (aj 4) (eC (.str "yes"))) [some (gD (jO g L w),.own),some (tD L,.sh []),some (.str w,.sh []),none,some (.str u,.own)]=some (u == "yes"):=rfl;unfold xX;rw[ew];cases e:(u==("yes":Str)) with
  |true=>
   rw[e] at ht;refine tK ht ((hu (jO g L w)).trans ?_);rw[Ye (g:=jO g L w) h1 h2 gl];rfl
  |false=>rw[e] at ht;rw[iO,ht];rfl
def Gd.re(k:Gd g)(ta:Ta)(lk:List (List Int))(ht:Bool)(gw:List (List Int))(en:List D)(an br:Int):Gd { g with ta:=ta,lk:=lk,ht:=ht,gw:=gw,en:=en,an:=an,br:=br }:=#[k.w1,k.h1,k.nt,k.gc,k.row,k.nd,k.xr,k.ue,k.gr,k.run]
structure Gc(n:Nat)(c:Ch):Prop where
 e1:c.2.2.length<=1
 bd:∀x∈c.2.1,1<=x/\x<=(n:Int)
 few:c.2.1.length<=60
 ok:nH n c.1 c.2.1 c.2.2=true
def One(C:List Ch):Prop:=∀c∈C,c.2.2.length<=1
def One.app(q:One C)(h:c.2.2.length<=1):One (C++[c]):=λx m=>(abC.mp m).elim (q x) λm=>by rw[aav.mp m];apply h
theorem N6:∀{C:List Ch},One C->(slots C).length<=C.length
 |[],_=>abD _
 |c::C,q=>by
  have h1:=q c aah;have h2:=N6 (C:=C) λx m=>q x (aab _ m)
  show((c.2.2.map (·.1))++slots C).length<=C.length+1;rw[aa3,List.length_map]
  lia
def Tf:slots (C++[c])=slots C++c.2.2.map (·.1):=by unfold slots;rw[List.flatMap_append,List.flatMap_singleton]
def Jg{E:List Ed}(h:E.length<=1)(m:∀p∈E,p.1∈Sl):Ee Sl E:=by
 match E,h with
 |[],_=>apply#[#[.nil,ade _],.nil,m]
 |[p],_=>apply#[#[ahA _ _,by show 1<=20;decide],ab6.mpr #[acL,.nil],m]
 |_::_::_,h=>apply absurd h (by simp)
def AW(h1:1<=m)(h2:m<=(C.length:Int)):ch (C++[c]) m=ch C m:=by
 unfold ch;rw[agG (by omega)]
def Wb(h1:1<=m)(h2:m<=(C.length:Int)):lean (sec (C++[c])) m=lean (sec C) m:=by
 rw[<- ko h1 (by rw[aa3,ac7];lia),AW h1 h2,ko h1 h2]
def zK:ch (C++[c]) (C.length+1)=c:=by
 unfold ch;rw[show((C.length:Int)+1-1).toNat=C.length by lia,afs (abD _),Nat.sub_self];rfl
def abM(q:One C)(g:GoodC (slots C) C)(k:Gc C.length c)(hl:C.length<60):GoodC (slots (C++[c])) (C++[c]):=by
 have at_:∀(Q:Ch->Prop),Q (0,[],[])->Q c->(∀m,Q (ch C m))->∀m,Q (ch (C++[c]) m):=λQ q0 qc h m=>by
  unfold ch;rw[List.getElem?_append]
  split
  .exact h m
  .cases e:([c]:List Ch)[(m-1).toNat-C.length]? with
   |none=>apply q0
   |some x=>
    have:=ag2 e;rw[aav.mp this];apply qc
 refine#[by rw[aa3,ac7];lia,af0 (N6 (q.app k.e1)) (by rw[aa3,ac7];lia),λm=>at_ (λc'=>Ee (slots (C++[c])) c'.2.2) (Jg (ade _) λp m=>nomatch m) (Jg k.e1 λp m=>by rw[Tf];apply aaS _ (acg.mpr #[p,m,rfl])) (λm=>#[(g.ed m).ed,(g.ed m).nd,λp mp=>by rw[Tf];apply aa4 _ ((g.ed m).sl p mp)]) m,λm x h1 h2 mx=>?_,λm=>?_]
 .rw[aa3,ac7] at h2
  by_cases h3:m<=(C.length:Int)
  .rw[Wb h1 h3] at mx;apply g.bd m x h1 h3 mx
  .have e:(ch (C++[c]) m)=c:=by
    unfold ch;rw[show(m-1).toNat=C.length by lia,afs (abD _),Nat.sub_self];rfl
   rw[<- ko h1 (by rw[aa3,ac7];lia),e] at mx;have:=k.bd x mx
   lia
 .by_cases h1:1<=m
  .by_cases h2:m<=((C++[c]).length:Int)
   .rw[<- ko h1 h2];refine at_ (λc=>c.2.1.length<=60) (ade _) k.few (λm=>?_) m;unfold ch;cases e:C[(m-1).toNat]? with
    |none=>apply ade _
    |some x=>
     have eT:=(ac0.mp e).1;have:=g.few (((m-1).toNat:Int)+1);rw[<- ko (by lia) (by lia)] at this;unfold ch at this;rw[show((((m-1).toNat:Int)+1-1).toNat)=(m-1).toNat by lia,e] at this;apply this
   .unfold lean;rw[if_pos h1,aiD (by rw[List.length_map];lia)];apply ade _
  .unfold lean;rw[abo h1];apply ade _
def agw(h:Row C row):eV (C++[c]) row=eV C row:=afw λx m=>by
 unfold cG;rw[AW (h x m).1 (h x m).2]
def aft(q:One g.C)(k:Gd g)(h:Gc g.C.length c)(hl:g.C.length<60):Gd (fJ g c):=by
 have lc:(g.C++[c]).length=g.C.length+1:=by rw[aa3];rfl
 refine#[k.w1,k.h1,k.nt,abM q k.gc h hl,λx m=>?_,k.nd,k.xr,k.ue,?_,?_]
 .have:=k.row x m;show 1<=x/\x<=(((g.C++[c]).length:Nat):Int);rw[aa3,ac7]
  lia
 .exact#[k.gr.im,k.gr.nd,(λq m=>by
   let#[x,e,mx]:=k.gr.ks q m;have:=dX.mp mx;apply#[x,e,dX.mpr (show 1<=x/\x<1+(((g.C++[c]).length:Nat):Int) by rw[lc];lia)]),k.gr.tp]
 .let#[v,e]:=k.run;apply#[v,by show fu [] (eV (g.C++[c]) (g.ln++g.ld))=some v;rw[agw k.row];apply e]
def Dm:aJ 1 (n+1)=aJ 1 n++[(n:Int)+1]:=by
 unfold aJ;rw[List.range_succ,aea,List.map_singleton,Int.add_comm]
def nE(h:g.ta=[]):dM g=none:=wH.mpr λp _ _=>by
 unfold lG wd;rw[h];rfl
def uv(h:g.gr=[]):Lf g:=λx _ y _=>by
 show bB g.gr y=false;rw[h];rfl
def ab3(k:Gd g):wl (fJ g c)=wl g++[(g.C.length:Int)+1]:=by
 have e:gx (fJ g c)=gx g:=rfl;have h:gx g ((g.C.length:Int)+1)=true:=by
  have h1:(g.C.length:Int)+1∉g.ln++g.ld:=λm=>by have:=(k.row _ m).2;lia
  rw[abC,not_or] at h1;have h2:fX g ((g.C.length:Int)+1)=false:=by
   cases q:fX g ((g.C.length:Int)+1) with
   |false=>rfl
   |true=>have:=dX.mp (k.gr.bd q);lia
  unfold gx;rw[aa8 h1.1,aa8 h1.2,h2];rfl
 show(aJ 1 (g.C++[c]).length).filter (gx (fJ g c))=_;rw[e,aa3,ac7,Dm,List.filter_append,ag1 h];rfl
def xg(q:One g.C)(k:Gd g)(ta:g.ta=[])(gr:g.gr=[])(ht:g.ht=false)(hc:Gc g.C.length c)(hl:g.C.length<60):
  ∃ex,Fl (g.C++[c]) g.ln g.ld (wl g++[(g.C.length:Int)+1]) g.w ex/\(g.ld++ex≠[]->jC (gD g) [.int c.1,iL c.2.1,eL c.2.2]=some (.int (g.C.length+1),gD (cI (cK (fJ g c) ex)))/\Gd (cK (fJ g c) ex)):=by
 have k1:=aft q k hc hl;let#[ex,F,k2,h]:=zC k1 (nE ta);rw[ab3 k] at F;refine#[ex,F,λne=>#[acv (by have:=hc.few;lia) (by have:=hc.e1;lia) hc.ok hl (mX k1 (n:=0) ?_ (by decide) k2),k2]];show Ru (gY (fJ g c)) _ 0;rw[nI (uv (g:=fJ g c) gr)];apply .no ht ((h (by rw[nE (g:=cK (fJ g c) ex) ta];apply λz=>nomatch z)).1 ne)
def KU(q:One g.C)(k:Gd g)(ta:g.ta=[])(gr:g.gr=[])(ht:g.ht=false)(hc:Gc g.C.length c)(hl:g.C.length<60)(hf:g.w=(g.ld.length:Int)):
  jC (gD g) [.int c.1,iL c.2.1,eL c.2.2]=some (.int (g.C.length+1),gD (cI (fJ g c)))/\Gd (fJ g c):=by
 let#[ex,F,h]:=xg q k ta gr ht hc hl;have e:ex=[]:=by
  rcases F.le with z|z
  .rw[aa3] at z;apply aht (by lia)
  .exact z
 subst e;have ne:g.ld≠[]:=λz=>by have:=k.w1;rw[z] at hf;simp at hf;lia
 have ef:cK (fJ g c) []=fJ g c:=by unfold cK;rw[acw]
 rw[<- ef];apply h (by rw[acw];apply ne)
def ahg(q:One g.C)(k:Gd g)(ta:g.ta=[])(gr:g.gr=[])(ht:g.ht=false)(hr:0<=r/\r<=9)(hl:g.C.length<60)(hf:(g.ld.length:Int)<g.w)(hw:wl g=[]):
  jC (gD g) [.int r,iL [],eL []]=some (.int (g.C.length+1),gD (cI (cK (fJ g (r,[],[])) [(g.C.length:Int)+1])))/\Gd (cK (fJ g (r,[],[])) [(g.C.length:Int)+1]):=by
 have hc:Gc g.C.length (r,[],[]):=#[ade _,(λ_ m=>nomatch m),ade _,by unfold nH inR;rw[aaC hr.1,aaC hr.2];rfl]
 let#[ex,F,h]:=xg q k ta gr ht hc hl;rw[hw] at F;have e:=F.pl r (λx m=>by rw[aav.mp m];apply zK) (ahA _ _);obtain⟨m,hm⟩:∃m,(g.w-(g.ld.length:Int)).toNat=m+1:=#[(g.w-(g.ld.length:Int)).toNat-1,by lia]
 rw[hm,List.nil_append,List.take_succ_cons,List.take_nil] at e;subst e;apply h (by simp)
def plain(r:Int):Ch:=(r,[],[])
structure Pg(g:G):Prop where
 gd:Gd g
 pl:∀c∈g.C,∃r,c=plain r/\0<=r/\r<=9
 ln:g.ln=[]
 ta:g.ta=[]
 gr:g.gr=[]
 ht:g.ht=false
 ld:g.ld=aJ 1 (min g.C.length g.w.toNat)
def Pg.one(p:Pg g):One g.C:=λc m=>by
 let#[r,e,_]:=p.pl c m;rw[e];apply ade _
theorem Pg.ch(p:Pg g)(h1:1<=x)(h2:x<=(g.C.length:Int)):∃r,ch g.C x=plain r/\0<=r/\r<=9:=p.pl _ (ag2 (HM h1 h2))
theorem Pg.wl(p:Pg g)(h:(g.C.length:Int)<=g.w):wl g=[]:=by
 cases e:K65.wl g with
 |nil=>rfl
 |cons x r=>
  let#[h1,_,h2,_]:=mZ.mp (e ▸ aah);rw[p.ld] at h2;apply absurd (dX.mpr #[h1.1,by lia]) h2
structure Sa(g g':G):Prop where
 w:g'.w=g.w
 h:g'.h=g.h
 n:g'.n=g.n
 t:g'.t=g.t
 en:g'.en=g.en
 gw:g'.gw=g.gw
def Sa.refl:Sa g g:=#[rfl,rfl,rfl,rfl,rfl,rfl]
def Sa.trans{g g1 g2:G}(a:Sa g g1)(b:Sa g1 g2):Sa g g2:=#[b.w.trans a.w,b.h.trans a.h,b.n.trans a.n,b.t.trans a.t,b.en.trans a.en,b.gw.trans a.gw]
def i8(k:Gd g):Gd (cI g):=k.re g.ta (qJ g) g.ht g.gw g.en g.an g.br
def Pg.ask(p:Pg g)(hr:0<=r/\r<=9)(hl:g.C.length<60):∃g',jC (gD g) [.int r,iL [],eL []]=some (.int (g.C.length+1),gD g')/\Pg g'/\g'.C=g.C++[plain r]/\Sa g g':=by
 have Qm:∀c∈g.C++[plain r],∃r,c=plain r/\0<=r/\r<=9:=λc m=>(abC.mp m).elim (p.pl c) λm=>#[r,aav.mp m,hr]
 have hw:=p.gd.w1;have hd:=p.ld
 by_cases h:(g.C.length:Int)<g.w
 .have e1:min g.C.length g.w.toNat=g.C.length:=by lia
  rw[e1] at hd;let#[e,k]:=ahg p.one p.gd p.ta p.gr p.ht hr hl (by rw[hd,c_];apply h) (p.wl (by lia));refine#[_,e,#[i8 k,Qm,p.ln,p.ta,p.gr,p.ht,?_],rfl,rfl,rfl,rfl,rfl,rfl,rfl];show g.ld++[(g.C.length:Int)+1]=aJ 1 (min (g.C++[(r,[],[])]).length g.w.toNat);rw[hd,aa3,ac7,show min (g.C.length+1) g.w.toNat=g.C.length+1 by lia,Dm]
 .have e1:min g.C.length g.w.toNat=g.w.toNat:=by lia
  rw[e1] at hd;have hc:Gc g.C.length (r,[],[]):=#[ade _,(λ_ m=>nomatch m),ade _,by unfold nH inR;rw[aaC hr.1,aaC hr.2];rfl]
  let#[e,k]:=KU p.one p.gd p.ta p.gr p.ht hc hl (by rw[hd,c_];lia);refine#[_,e,#[i8 k,Qm,p.ln,p.ta,p.gr,p.ht,?_],rfl,rfl,rfl,rfl,rfl,rfl,rfl];show g.ld=aJ 1 (min (g.C++[(r,[],[])]).length g.w.toNat);rw[hd,aa3,ac7,show min (g.C.length+1) g.w.toNat=g.w.toNat by lia]
def g0(w h n t:Int):G:=#[w,h,n,t,[],[],[],[],[],[],false,[],[],0,0]
def RN(hw:1<=w/\w<=16)(hh:1<=h/\h<=8)(nt:1<=n/\n<=t/\t<=20):zO (.ins "Gate" []) [.int w,.int h,.int n,.int t]=some (.aC,gD (g0 w h n t)):=by
 have q:∀{i} {v b},aj i [some (.ins "Gate" [],.own),some (.int w,.sh []),some (.int h,.sh []),some (.int n,.sh []),some (.int t,.sh [])]=some (.int v,.sh [])->1<=v/\v<=b->tV (bC nG (ao (aj i) (ao (eC (.int 1)) (ao (eC (.int b)) aA)))) [some (.ins "Gate" [],.own),some (.int w,.sh []),some (.int h,.sh []),some (.int n,.sh []),some (.int t,.sh [])]=some true:=λh hb=>(yy h).trans (by unfold inR;rw[aaC hb.1,aaC hb.2];rfl)
 refine qw (Y:=[some (gD (g0 w h n t),.own),some (.int w,.sh []),some (.int h,.sh []),some (.int n,.sh []),some (.int t,.sh [])]) rfl (bZ (kN ((LJ (q rfl hw)).trans ((LJ (q rfl hh)).trans (bA (bP (ps:=[(.int n,.sh []),(.int t,.sh [])]) rfl (Qg nt)))))) ?_) rfl
 kernel_rfl
def yU(hw:1<=w/\w<=16)(hh:1<=h/\h<=8)(nt:1<=n/\n<=t/\t<=20):Pg (g0 w h n t):=by
 refine#[#[hw,hh,nt,#[ade _,ade _,λm=>?_,λm x h1 h2=>?_,λm=>?_],(λ_ m=>nomatch m),.nil,?_,(λ_ m=>nomatch m),#[rfl,.nil,(λ_ m=>nomatch m),λ_ m=>nomatch m],#[[],rfl]],(λ_ m=>nomatch m),rfl,rfl,rfl,rfl,rfl]
 .exact Jg (by unfold cG ch;apply ade _) λp m=>by unfold cG ch at m;apply nomatch m
 .have h2:m<=0:=h2
  lia
 .unfold lean
  split<;>apply ade _
 .show((0:Nat):Int)<=w
  lia
def vJ:DO [gD g]=some (iL g.ln):=bq rfl (cu (cN (fl rfl) vU))
def AX:F9 [gD g]=some (iL g.ld):=bq rfl (cu (cN (fl rfl) vU))
def Vh:Jp [gD g]=some (.bl g.ht):=bq rfl (by rw[Hi,fl rfl];rfl)
def outD(gr:List (Key×D))(x:Int):D:=.tup [.int x,(aZ gr (Sum.inl x:Key)).getD .aC]
def GQ(k:Gd g):Xz [gD g]=some (.lst ((e_ (kG g.gr)).map (outD g.gr))):=by
 have hl:=k.gr.len;have gl:=k.gc.ln;let#[ek,e]:=uL k.gr.ks;have el:(kG g.gr).length=g.gr.length:=by have:=congrArg List.length ek;rw[List.length_map,List.length_map] at this;apply this.symm
 have hs:e1 m7 (bU "Gate" "grounds" (aj 0)) [some (gD g,.sh [])]=some (iL (e_ (kG g.gr)),.own):=cN (fl rfl) (by
  show(match kg g.gr with|some ns=>if ns.length<64 then some (D.lst ((e_ ns).map D.int)) else none|none=>none)=_;rw[e];dsimp only;rw[if_pos (by lia)];rfl)
 have hc:=kH (js:=[none,some 0]) (g:=gN 0) (tt:=lU) (k:=λd=>match d with | .int x=>some (outD g.gr x) | _=>none) (gX hs) (by rw[List.length_map,Fz];apply size_le (by lia)) (λd m=>by
  let#[x,mx,rfl]:=acg.mp m;have mi:=k.gr.mem.mp (zx.mp mx);unfold bB at mi;let#[v,hv]:=afS.mp mi;have iv:=BC.mp k.gr.im v (by
   unfold aZ at hv;let#[kv,h1,rfl]:=adq.mp hv;apply acg.mpr #[kv,ahf h1,rfl])
  have hg:e2 m9 (bU "Gate" "grounds" (aj 1)) (aj 0) [some (.int x,.sh []),some (gD g,.sh [])]=some (v,.own):=aQ (fl rfl) rfl (by
   show(aZ g.gr (Sum.inl x:Key)).bind _=_;rw[hv,adG,if_pos iv])
  have ho:∃t,ia (ao (aj 0) (ao (e2 m9 (bU "Gate" "grounds" (aj 1)) (aj 0)) aA)) [some (.int x,.sh []),some (gD g,.sh [])]=some (outD g.gr x,t):=by
   rw[m6,aM,aM,hg];unfold outD;rw[hv];apply#[_,rfl]
  let#[t,ho]:=ho;apply v9 rfl rfl ho (by
   unfold outD;rw[hv];simp only[aiy,aH,aP,iv,ahl]))
 rw[agX,show((e_ (kG g.gr)).filterMap ((λd=>match d with|D.int x=>some (outD g.gr x)|_=>none) ∘ D.int))=(e_ (kG g.gr)).map (outD g.gr) from nj (outD g.gr) _] at hc;apply bq rfl (cu hc)
def gk(gr:List (Key×D))(x:Int):D:=(aZ gr (Sum.inl x:Key)).getD .aC
def sk(gr:List (Key×D)):List Int:=e_ (kG gr)
def od(gr:List (Key×D)):List (Key×D):=(sk gr).map λx=>(Sum.inl x,gk gr x)
theorem SM(f:Int->D)(x:Int):∀l:List Int,aZ (l.map λx=>((Sum.inl x:Key),f x)) (Sum.inl x)=if x∈l then some (f x) else none
 |[]=>rfl
 |a::l=>by
  have ih:=SM f x l;unfold aZ at ih ⊢;rw[aaB,adV]
  by_cases h:a=x
  .subst h;rw[show decide (((Sum.inl a:Key),f a).1=Sum.inl a)=true from aaC rfl,if_pos aah];rfl
  .rw[show decide (((Sum.inl a:Key),f a).1=Sum.inl x)=false from aa8 λe=>h (aiV e)];dsimp only;rw[ih]
   by_cases m:x∈l
   .rw[if_pos m,if_pos (aab _ m)]
   .rw[abo m,abo λq=>(aaO.mp q).elim (λe=>h e.symm) m]
def Gr.Jd{gr:List (Key×D)}(k:Gr n gr):x∈sk gr↔bB gr x=true:=zx.trans k.mem
def Gr.ksn{gr:List (Key×D)}(k:Gr n gr):(sk gr).Nodup:=(sX _).nodup_iff.mpr k.nK
def Gr.at_{gr:List (Key×D)}(k:Gr n gr)(h:bB gr x=true):aZ gr (Sum.inl x)=some (gk gr x)/\aH (gk gr x)=true/\(Sum.inl x,gk gr x)∈gr:=by
 unfold bB at h;let#[v,hv]:=afS.mp h;have e:gk gr x=v:=by unfold gk;rw[hv];rfl
 rw[e];have m:(Sum.inl x,v)∈gr:=by
  unfold aZ at hv;let#[kv,h1,rfl]:=adq.mp hv;have:=aiS h1;rw[<- (aaK this:kv.1=Sum.inl x)];apply ahf h1
 apply#[hv,BC.mp k.im v (acg.mpr #[_,m,rfl]),m]
def Gr.Se{gr:List (Key×D)}(k:Gr n gr)(x:Int):aZ (od gr) (Sum.inl x)=aZ gr (Sum.inl x):=by
 unfold od;rw[SM]
 by_cases h:bB gr x=true
 .rw[if_pos (k.Jd.mpr h),(k.at_ h).1]
 .rw[abo λq=>h (k.Jd.mp q)];unfold bB at h;cases e:aZ gr (Sum.inl x:Key) with
  |none=>rfl
  |some v=>rw[e] at h;apply absurd rfl h
def Gr.KE{gr:List (Key×D)}(k:Gr n gr)(x:Int):bB (od gr) x=bB gr x:=by unfold bB;rw[k.Se]
theorem OS{gr:List (Key×D)}(k:Gr n gr):∀l:List Int,(∀x∈l,bB gr x=true)->i9 (l.map (outD gr))=some (l.map λx=>((Sum.inl x:Key),gk gr x))
 |[],_=>rfl
 |x::l,h=>by
  rw[aaB];show(match iw (.int x),i9 (l.map (outD gr)) with|some k,some ps=>if aH (gk gr x)=true then some ((k,gk gr x)::ps) else none|_,_=>none)=_;rw[OS k l λy m=>h y (aab _ m)];show(if aH (gk gr x)=true then some (((Sum.inl x:Key),gk gr x)::_) else none)=_;rw[if_pos (k.at_ (h x aah)).2.1];rfl
theorem LR:∀(l:List Int) (f:Int->D) (m:List (Key×D)),l.Nodup->(∀x∈l,bB m x=false)->(l.map λx=>((Sum.inl x:Key),f x)).foldl (λm p=>putD m p.1 p.2) m=m++l.map λx=>((Sum.inl x:Key),f x)
 |[],f,m,_,_=>(acw m).symm
 |x::l,f,m,nd,h=>by
  let#[n1,n2]:=ab6.mp nd;rw[aaB,aeO];show(l.map λx=>((Sum.inl x:Key),f x)).foldl (λm p=>putD m p.1 p.2) (putD m (Sum.inl x) (f x))=_;rw[LR l f _ n2 λy my=>by rw[tY,h y (aab _ my),aa8 (show ¬y=x from λe=>n1 (e ▸ my))];rfl,VF (h x aah),ae4];rfl
def Lj{gr:List (Key×D)}(k:Gr n gr):yj (.lst ((e_ (kG gr)).map (outD gr)))=some (.bS (od gr)):=by
 show(i9 ((sk gr).map (outD gr))).map _=_;rw[OS k (sk gr) λx m=>k.Jd.mp m];show some (D.bS (((sk gr).map λx=>((Sum.inl x:Key),gk gr x)).foldl (λm p=>putD m p.1 p.2) []))=_;rw[LR _ _ _ k.ksn λx m=>rfl];rfl
def acA(hl:C.length<=60):agU [obj C]=some (obj C):=by
 refine bq rfl (sq (Y':=[some (obj C,.sh []),some (obj [],.own)]) rfl (sq (Y':=[some (obj C,.sh []),some (obj C,.own)]) ?_ rfl));show(if("Changes":Str)="Changes" then(if(aP (C.map ent)&&aP ([]:List D)&&decide (([]:List D).length+(C.map ent).length<=sizeLine))=true then some (Out.nx (cP [some (obj C,.sh []),some (obj [],.own)] 1 (.ins "Changes" (dY "entries" (.lst ([]++C.map ent)) [("entries",.lst [])])))) else none) else none)=_;rw[if_pos rfl,if_pos (by rw[GX,aaC (by rw[List.length_map,aga];show 0+_<=_;lia)];rfl)];rfl
def K6(hl:g.C.length<=60):Be [gD g]=some (obj g.C):=bq rfl (cu (k8 (Y:=[some (gD g,.sh [])]) (ps:=[]) (fl (g:=g) (f:="known") (d:=obj g.C) (t:=.sh []) rfl rfl) rfl rfl (acA hl)))
def ix(l:List Int)(x:Int):Int:=((l.takeWhile λy=>!(y==x)).length:Nat)
def DJ{l:List Int}(h:x∈l):Cw (iL l) (.int x)=some (.int (ix l x)):=by
 show(match eF (l.map D.int) with|some ts=>(ts.findIdx? (· == x)).map λj:Nat=>D.int j|none=>none)=_;rw[sU];dsimp only;rw[GN h];rfl
def Ai(hC:g.C.length<=60)(h:1<=x/\x<=(g.C.length:Int)):iW (tV (bN "Changes" "has" xH (bN "Gate" "changes" Be (aj 0) aA) (ao (aj 1) aA))) (some (gD g,.sh [])::some (.int x,.sh [])::s)=some false:=
 kN (b:=true) (bA (k8 (ps:=[(.int x,.sh [])]) (fB rfl (K6 hC)) (uB (by decide)) rfl ((yI g.C x).trans (by unfold inR;rw[aaC h.1,aaC h.2];rfl))))
def cR(s:Str)(d:D):D:=.tup [.str s,d]
def uO(h:f Y=some (.int x,t))(h2:f2 Y=some (iL l,t2)):tV (e2 (ju false) f f2) Y=some (decide (x∈l)):=by
 apply bA (aQ h h2 (by unfold iL;rw[yK,abo aa2,Az]))
def mh(h:tf Y=some true)(h2:sf Y=some (.rt d)):cz (dN tf sf eO) sg Y=some (.rt d):=jX (by rw[iO,h];apply h2)
def zD(h1:f Y=some (d,t))(hi:aH d=true):iB (ia (ao (eC (.str s)) (ao f aA))) Y=some (.rt (cR s d)):=by
 unfold iB;have h2:aH (cR s d)=true:=by unfold cR;simp only[aH,aP,hi,ahl]
 rw[m6,aM,aM,h1];show(if kj _=true then some (Out.rt (cR s d)) else if aH (cR s d)=true then some (Out.rt (cR s d)) else none)=_;rw[h2]
 split<;>rfl
def MY(k:Gd g)(h:1<=x/\x<=(g.C.length:Int))(hi:x∈g.ln):fV [gD g,.int x]=some (cR "in" (.int (ix g.ln x))):=by
 have hC:=k.gc.ln;apply bq rfl (bZ (Ai hC h) (b7 (fB rfl vJ) (mh ((uO rfl rfl).trans (by rw[aaC hi])) (zD (aQ rfl rfl (DJ hi)) rfl))))
def GH(h:f Y=some (.int x,t))(h2:f2 Y=some (.bS gr,t2)):tV (e2 (pF false) f f2) Y=some (bB gr x):=bA (aQ h h2 rfl)
def yY(k:Gd g)(h:1<=x/\x<=(g.C.length:Int))(hi:x∉g.ln)(ho:fX g x=true):fV [gD g,.int x]=some (cR "out" (gk g.gr x)):=by
 have hC:=k.gc.ln;refine bq rfl (bZ (Ai hC h) (b7 (fB rfl vJ) (bZ ((uO rfl rfl).trans (by rw[aa8 hi])) (b7 (cN (fB rfl (GQ k)) (Lj k.gr)) (mh ((GH rfl rfl).trans (by rw[k.gr.KE];apply congrArg some ho)) (zD (aQ rfl rfl ?_) (k.gr.at_ ho).2.1))))));show(aZ (od g.gr) (Sum.inl x:Key)).bind _=_;rw[k.gr.Se,(k.gr.at_ ho).1,adG,if_pos (k.gr.at_ ho).2.1]
def Eh(k:Gd g)(h:1<=x/\x<=(g.C.length:Int))(hi:x∉g.ln)(ho:fX g x=false)(hl:x∈g.ld):fV [gD g,.int x]=some (cR "laid" (.int (ix g.ld x))):=by
 have hC:=k.gc.ln;apply bq rfl (bZ (Ai hC h) (b7 (fB rfl vJ) (bZ ((uO rfl rfl).trans (by rw[aa8 hi])) (b7 (cN (fB rfl (GQ k)) (Lj k.gr)) (bZ ((GH rfl rfl).trans (by rw[k.gr.KE];apply congrArg some ho)) (b7 (fB rfl AX) (mh ((uO rfl rfl).trans (by rw[aaC hl])) (zD (aQ rfl rfl (DJ hl)) rfl))))))))
def vI(k:Gd g)(h:1<=x/\x<=(g.C.length:Int))(hi:x∉g.ln)(ho:fX g x=false)(hl:x∉g.ld)(hw:u9 [gD g,.int x]=some d)(hd:aH d=true):fV [gD g,.int x]=some d:=by
 have hC:=k.gc.ln;refine bq rfl (bZ (Ai hC h) (b7 (fB rfl vJ) (bZ ((uO rfl rfl).trans (by rw[aa8 hi])) (b7 (cN (fB rfl (GQ k)) (Lj k.gr)) (bZ ((GH rfl rfl).trans (by rw[k.gr.KE];apply congrArg some ho)) (b7 (fB rfl AX) (bZ ((uO rfl rfl).trans (by rw[aa8 hl])) (cu (bP (ps:=[(gD g,.sh []),(.int x,.sh [])]) rfl hw)))))))))
def gO(g:G)(x:Int):List Int:=(lean (sec g.C) x).filter λy=>!decide (y∈g.ln++g.ld)
def Po:tV (bN "Gate" "stopped" Jp (aj 0) aA) (some (gD g,t)::s)=some g.ht:=bA (fB rfl Vh)
def afQ(h:g.ht=true):u9 [gD g,.int x]=some (.tup [.str "stopped"]):=bq rfl (mh (Po.trans (by rw[h])) rfl)
def G0(hl:g.ln.length+g.ld.length<=900):tV (e2 wV (bN "Gate" "bad" zY (aj 0) aA) (eC .aC)) (some (gD g,t)::s)=some (dM g).isSome:=
 bA (aQ (fB rfl (xY hl)) rfl (by cases dM g<;>rfl))
def rV(g:G)(x:Int)(s5 s6:Slot):aU:=[some (gD g,.sh []),some (.int x,.sh []),some (obj g.C,.own),some (iL (g.ln++g.ld),.own),some (iL (gO g x),.own),s5,s6]
def ahN(k:Gd g):e2 gQ (bN "Gate" "line" DO (aj 0) aA) (bN "Gate" "laid" F9 (aj 0) aA) (some (gD g,t)::s)=some (iL (g.ln++g.ld),.own):=by
 have:=k.len;apply aQ (fB rfl vJ) (fB rfl AX) (zm (by rw[aga];have:=k.gc.ln;lia))
def Cv(k:Gd g)(ht:g.ht=false)(h:1<=x/\x<=(g.C.length:Int))(hs:TL (rV g x none none)=r):
  cz (dN (tV (bN "Gate" "stopped" Jp (aj 0) aA)) S eO) (cz (dw 2 (bN "Gate" "changes" Be (aj 0) aA)) (cz (dw 3 (e2 gQ (bN "Gate" "line" DO (aj 0) aA) (bN "Gate" "laid" F9 (aj 0) aA))) (cz (dw 4 (eW [none,some 3] (fG (bN "Changes" "leans_of" Dt (aj 2) (ao (aj 1) aA))) (gN 0) (tV (e2 (ju true) (aj 0) (aj 1))) (aj 0))) TL))) [some (gD g,.sh []),some (.int x,.sh []),none,none,none,none,none]=r:=by
 have hC:=k.gc.ln;refine bZ (Po.trans (by rw[ht])) (b7 (fB rfl (K6 hC)) (b7 (ahN k) (b7 (lS (gX (lA rfl rfl (Fx h.1 h.2))) (by have:=k.gc.few x;lia) (λy=>rfl) (λy my=>bA (G7 rfl rfl))) hs)))
def LW(k:Gd g)(ht:g.ht=false)(h:1<=x/\x<=(g.C.length:Int))(hm:gO g x≠[]):u9 [gD g,.int x]=some (cR "leans" (.dH ((gO g x).map D.int))):=by
 refine bq rfl (Cv k ht h (mh (?_:Ev.mG (aj 4) (rV g x none none)=some true) ?_))
 .show some (!((gO g x).map D.int).isEmpty)=_;cases e:gO g x with
  |nil=>apply absurd e hm
  |cons y r=>rfl
 .have e:Dl (eC (.str "leans")) 4 (rV g x none none)=some (.ok (cR "leans" (.dH ((gO g x).map D.int))) (qS (rV g x none none) 4)):=by
   show(if aH (.str "leans")=true/\aP ((gO g x).map D.int)=true then some (ER.ok (cR "leans" (.dH ((gO g x).map D.int))) (qS (rV g x none none) 4)) else none)=_;rw[if_pos #[rfl,fm _]]
  show AY (Dl (eC (.str "leans")) 4) (rV g x none none)=_;unfold AY;rw[e]
def VW(k:Gd g)(ht:g.ht=false)(h:1<=x/\x<=(g.C.length:Int))(hm:gO g x=[])(hb:dM g=some p):u9 [gD g,.int x]=some (cR "halving" (.int p)):=by
 have hl:=k.len;refine bq rfl (Cv k ht h (bZ (?_:Ev.mG (aj 4) (rV g x none none)=some false) (mh ((G0 (by lia)).trans (by rw[hb];rfl)) (zD (fB rfl ((xY (by lia)).trans (by rw[hb];rfl))) rfl))));show some (!((gO g x).map D.int).isEmpty)=_;rw[hm];rfl
def ND(k:Gd g)(h:1<=x/\x<=(g.C.length:Int))(hv:fu [] (eV g.C (g.ln++g.ld))=some v):bC JG (ao (bC Q9 (ao (aj 2) (ao (aj 3) aA))) (ao (bN "Changes" "edits_of" yu (aj 2) (ao (aj 1) aA)) aA)) (rV g x s5 s6)=some (vO (bad (iE (nz v)) (cG g.C x)),.own):=by
 have hl:=k.len;refine bP (ps:=[(dS (nz v),.own),(eL (cG g.C x),.own)]) ?_ (TU k.gc x);rw[aM,aM,bP (ps:=[(obj g.C,.sh [2]),(iL (g.ln++g.ld),.sh [3])]) rfl (zL k.gc k.row (by rw[aa3];lia) hv).1,lA rfl rfl (xW h.1 h.2)];rfl
def aby(k:Gd g)(hv:fu [] (eV g.C (g.ln++g.ld))=some v):aaj [obj g.C,iL g.ln,iL g.ld,iL (wl g)]=some (iL (((wl g).filter (iM g.C (g.ln++g.ld))).filter (fU g.C (iE (nz v))))):=by
 have hl:=k.len;have hw:=Cf (g:=g);have hC:=k.gc.ln;have hf:=ad9 (iM g.C (g.ln++g.ld)) (wl g);refine bq rfl (b7 (bP (ps:=[(obj g.C,.sh []),(iL g.ln,.sh []),(iL g.ld,.sh [])]) rfl (Tn k.gc (by lia) k.row hv)) (cu (lS (gX (bP (ps:=[(obj g.C,.sh []),(iL g.ln,.sh []),(iL g.ld,.sh []),(iL (wl g),.sh [])]) rfl (Iw k.gc (by lia) gq (by lia)))) (by lia) (λy=>rfl) λy my=>?_)));have r:=gq (g:=g) y (adh.mp my).1;apply bA (bP (ps:=[(obj g.C,.sh []),(cM (iE (nz v)),.sh []),(.int y,.sh [])]) rfl (N8 k.gc r.1 r.2))
def j6(g:G)(v:kY):List Int:=((wl g).filter (iM g.C (g.ln++g.ld))).filter (fU g.C v)
def HU(k:Gd g)(hv:fu [] (eV g.C (g.ln++g.ld))=some v)(E:List Ed):bad (iE (nz v)) E=bad v E:=by
 have hl:=k.len;apply JN (HC (zL k.gc k.row (by rw[aa3];lia) hv).2.nd) E
def aeH(k:Gd g)(ht:g.ht=false)(h:1<=x/\x<=(g.C.length:Int))(hm:gO g x=[])(hb:dM g=none)(hv:fu [] (eV g.C (g.ln++g.ld))=some v)(hE:bad v (cG g.C x)=s::r):u9 [gD g,.int x]=some (cR "unfit" (.int s)):=by
 have hl:=k.len;have e:=ND (s5:=none) (s6:=none) k h hv;rw[HU k hv,hE] at e;refine bq rfl (Cv k ht h (bZ (?_:Ev.mG (aj 4) (rV g x none none)=some false) (bZ ((G0 (by lia)).trans (by rw[hb];rfl)) (b7 e (mh rfl rfl)))));show some (!((gO g x).map D.int).isEmpty)=_;rw[hm];rfl
def Ra(k:Gd g)(ht:g.ht=false)(h:1<=x/\x<=(g.C.length:Int))(hm:gO g x=[])(hb:dM g=none)(hv:fu [] (eV g.C (g.ln++g.ld))=some v)(hE:bad v (cG g.C x)=[])(hx:x∈j6 g v):u9 [gD g,.int x]=some (cR "turn" (.int (ix (ir (pr g.C) (j6 g v)) x))):=by
 have hl:=k.len;have hC:=k.gc.ln;have hw:=Cf (g:=g);have e:=ND (s5:=none) (s6:=none) k h hv;rw[HU k hv,hE] at e;have d7:fU g.C (iE (nz v))=fU g.C v:=funext λy=>by unfold fU;rw[HU k hv]
 have ey:=aby k hv;rw[d7] at ey;have hr:Row g.C (j6 g v):=λy m=>gq y (adh.mp (adh.mp m).1).1
 have hn:(j6 g v).Nodup:=(yF.sublist afr).sublist afr;have VS:(j6 g v).length<64:=by
  have h1:=ad9 (iM g.C (g.ln++g.ld)) (wl g);have h2:=ad9 (fU g.C v) ((wl g).filter (iM g.C (g.ln++g.ld)));unfold j6
  lia
 refine bq rfl (Cv k ht h (bZ (?_:Ev.mG (aj 4) (rV g x none none)=some false) (bZ ((G0 (by lia)).trans (by rw[hb];rfl)) (b7 e (bZ rfl (b7 (d:=iL (ir (pr g.C) (j6 g v))) (t:=.own) ?_ (zD (aQ rfl rfl (DJ ((qy _).mem_iff.mpr hx))) rfl)))))))
 .show some (!((gO g x).map D.int).isEmpty)=_;rw[hm];rfl
 .refine bP (ps:=[(obj g.C,.sh [2]),(iL (j6 g v),.own)]) ?_ (L5 hr hn VS);rw[aM,aM,bP (ps:=[(obj g.C,.sh [2]),(iL g.ln,.own),(iL g.ld,.own),(iL (wl g),.own)]) ?_ ey]
  .rfl
  .rw[aM,aM,aM,aM,fB rfl vJ,fB rfl AX,fB rfl (CH (by lia))];rfl
def Lz(n:Nat)(d:D):Prop:=gb d=true/\(py d).canLay0=true/\(py d).depth<=n
theorem AJ{n:Nat}:∀{ds:List D},(∀d∈ds,Lz n d)->lT ds=true/\PyData.canLayAll0 (fP ds)=true/\PyData.depthAll (fP ds)<=n
 |[],_=>#[rfl,rfl,by show PyData.depthAll []<=n;simp[PyData.depthAll]]
 |d::ds,h=>by
  let#[a1,a2,a3]:=h d aah;let#[b1,b2,b3]:=AJ λe m=>h e (aab _ m)
  refine#[by unfold lT;rw[a1,b1];rfl,?_,?_]
  .unfold fP;simp only[PyData.canLayAll0,a2,b2,ahl]
  .unfold fP;simp only[PyData.depthAll];omega
def GC{n:Nat}{ds:List D}(h:∀d∈ds,Lz n d):Lz (n+1) (.tup ds):=by
 let#[a,b,c]:=AJ h;refine#[by unfold gb;apply a,?_,?_]
 .unfold py;simp only[PyData.canLay0];apply b
 .unfold py;simp only[PyData.depth];omega
def aex{n:Nat}{ds:List D}(h:∀d∈ds,Lz n d):Lz (n+1) (.lst ds):=by
 let#[a,b,c]:=AJ h;refine#[by unfold gb;apply a,?_,?_]
 .unfold py;simp only[PyData.canLay0];apply b
 .unfold py;simp only[PyData.depth];omega
def Lz.up{d:D}(h:Lz n d)(l:n<=m):Lz m d:=#[h.1,h.2.1,af0 h.2.2 l]
def Lz.lay{d:D}(h:Lz n d)(l:n<=40):dg d=true:=by
 unfold dg;rw[h.1,h.2.1,aaC (af0 h.2.2 l)];rfl
def TH(i:Int):Lz 0 (.int i):=#[rfl,rfl,by show PyData.depth (.int i)<=0;simp[PyData.depth]]
def IA(x:Str)(h:PyData.strOk x=true:=by decide +kernel):Lz 0 (.str x):=#[rfl,by unfold py;simp only[PyData.canLay0];apply h,by unfold py;simp only[PyData.depth];apply abD _]
def Rp{n:Nat}{ds:List D}(h:∀d∈ds,Lz n d):Lz (n+1) (.dH ds):=by
 let#[a,b,c]:=AJ h;refine#[by unfold gb;apply a,?_,?_]
 .unfold py;simp only[PyData.canLay0];apply b
 .unfold py;simp only[PyData.depth];omega
def FL:Nat->List D->Option D
 |0=>λ_=>none
 |n+1=>bu 1 1 (vF (FL n))
def M6(i:Int):FL (n+1) [.int i]=some (.bl true):=rfl
def Fy(s:Str):FL (n+1) [.str s]=some (.bl true):=rfl
def Uk{ds:List D}{Y:aU}(h:∀d∈ds,FL n [d]=some (.bl true))(hl:ds.length<=100)(hi:fG (aj 0) Y=some (ds,t)):e1 tG (eW [none] (fG (aj 0)) (gN 0) lU (bC (FL n) (ao (aj 0) aA))) Y=some (.bl true,.own):=by
 have hc:=kH (js:=[none]) (g:=gN 0) (tt:=lU) (te:=bC (FL n) (ao (aj 0) aA)) (k:=λ_=>some (.bl true)) hi (size_le (by lia)) (λd m=>nL rfl rfl (bP rfl (h d m)));have e:ds.filterMap (λ_=>some (D.bl true))=(ds.map λ_=>true).map D.bl:=by
  rw[adK];apply nj (λ_=>D.bl true) ds
 rw[uJ,hc,DG,e,H_,aiM];simp
def Hu{ds:List D}(h:∀d∈ds,FL n [d]=some (.bl true))(hl:ds.length<=100):FL (n+1) [.tup ds]=some (.bl true):=
 bq rfl (mh rfl (cu (Uk h hl rfl)))
def aeL{ds:List D}(h:∀d∈ds,FL n [d]=some (.bl true))(hl:ds.length<=100):FL (n+1) [.dH ds]=some (.bl true):=
 bq rfl (mh rfl (cu (Uk h hl rfl)))
def Dz{ds:List D}(h:FL 4 [.tup ds]=some (.bl true))(l:Lz n (.tup ds))(hn:n<=40):nN [.tup ds,.tup ds]=some (.bl true):=
 bq rfl (cu (mU (b:=true) (c:=true) (cN rfl rfl) (mU (b:=true) (c:=true) (bP rfl h) (aQ rfl rfl (M1 (l.lay hn))))))
def abr(hC:g.C.length<=60)(h:inR x 1 g.C.length=false):iW (tV (bN "Changes" "has" xH (bN "Gate" "changes" Be (aj 0) aA) (ao (aj 1) aA))) (some (gD g,.sh [])::some (.int x,.sh [])::s)=some true:=
 kN (b:=false) (bA (k8 (ps:=[(.int x,.sh [])]) (fB rfl (K6 hC)) (uB (by decide)) rfl ((yI g.C x).trans (by rw[h]))))
def YQ(h:tf Y=some true)(h2:sf Y=some (.er r c Y')):cz (dN tf sf eO) sg Y=some (.er r c Y'):=by rw[jy,iO,h];show xZ _ (sf Y)=_;rw[h2];rfl
def YN(hC:g.C.length<=60)(h:inR x 1 g.C.length=false)(hx:x.natAbs<2 ^ 64):AL [gD g,.int x]=some (.er ("NoChange",none)):=
 abp (raw:=true) (Y:=[some (gD g,.sh []),some (.int x,.sh []),none,none,none]) rfl (YQ (abr hC h) (by
  have e:e1 (A7 "no change has the number ") (aj 1) [some (gD g,.sh []),some (.int x,.sh []),none,none,none]=some (.str (Str.empty++"no change has the number "++Str.ofString (toString x)),.own):=cN rfl (if_pos hx);show(match ao (e1 (A7 "no change has the number ") (aj 1)) aA [some (gD g,.sh []),some (.int x,.sh []),none,none,none] with|some _=>_|none=>none)=_;rw[aM,e];rfl))
def agY(l:List Bool):dg (.lst (l.map D.bl))=true:=(aex (n:=0) λd m=>by
 let#[x,_,rfl]:=acg.mp m;apply#[rfl,by unfold py;simp only[PyData.canLay0],by unfold py;simp only[PyData.depth];apply abD _]).lay (by decide)
def no3:List D:=[true,true,false].map D.bl
def Od(hC:g.C.length<=60)(h:inR x 1 g.C.length=false)(hx:x.natAbs<2 ^ 64):Y6 [gD g,.int x]=some (.bl true):=by
 have m:Bu (Dq AL (ao (aj 0) (ao (aj 1) aA))) [some (gD g,.sh []),some (.int x,.sh []),some (.lst [],.own),none,none]=some (.er false ("NoChange",none) [some (gD g,.sh []),some (.int x,.sh []),some (.lst [],.own),none,none]):=by
  show(match(match AL [gD g,.int x] with|some (.ok d)=>some (ER.ok d [some (gD g,.sh []),some (.int x,.sh []),some (.lst [],.own),none,none])|some (.er en)=>some (ER.er en [some (gD g,.sh []),some (.int x,.sh []),some (.lst [],.own),none,none])|none=>none) with|some (.ok d Y')=>some (Out.nx Y')|some (.er cn Y')=>some (.er false cn Y')|none=>none)=_;rw[YN hC h hx]
 refine bq rfl (b7 (d:=.lst []) (t:=.own) rfl (sq (Y':=[some (gD g,.sh []),some (.int x,.sh []),some (.lst no3,.sh [4]),none,some (.bl false,.own)]) ?_ (cu (aQ rfl rfl (M1 (agY [true,true,false]))))));unfold Lb;show(match Bu (Dq AL (ao (aj 0) (ao (aj 1) aA))) [some (gD g,.sh []),some (.int x,.sh []),some (.lst [],.own),none,none] with|some (.er false cn Y')=>_|some (.er true _ _)=>none|o=>o)=_;rw[m];rfl
def xA{i:Nat}{A:AF}{ps:List (D×Tag)}(h0:Y[i]? = some (some (gD g,.own)))(hg:A Y=some ps)(hp:apart i ps=true)(h:F (gD g) (ps.map (·.1))=some (r,gD g'))(hm:(gF g).lookup m=none:=by rfl):xO i "Gate" m F A Y=some (r,cP Y i (gD g')):=by
 unfold xO;rw[h0,hg];show(if("Gate":Str)="Gate"/\(gF g).lookup m=none/\apart i ps=true then(F (gD g) (ps.map (·.1))).map _ else none)=_;rw[if_pos #[rfl,hm,hp],h];rfl
def jK{f:XF}(h:f Y=some (r,Y')):sZ f Y=some (.nx Y'):=by unfold sZ;rw[h];rfl
abbrev sO(o:Option Int):Slot:=o.map λk=>(.int k,.sh [])
def rT(w h t:Int)(rk:List Int)(g:G)(o5 o6 o7:Option Int):aU:=[some (.int w,.sh []),some (.int h,.sh []),some (.int t,.sh []),some (iL rk,.sh []),some (gD g,.own),sO o5,sO o6,sO o7]
abbrev B1(e:EF):SF:=sZ (xO 4 "Gate" "ask" jC (ao e (ao (eZ aA) (ao (eZ aA) aA))))
def Uc(k:Int):oMod (.int k) (.int 10)=some (.int (k % 10)):=qH (by decide)
theorem M7:∀{ks:List Int}{g:G}{o5:Option Int},Pg g->g.C.length+ks.length<=60->∃g' n8,dD (gN 5) (.sh []) (B1 (e2 oMod (aj 5) (eC (.int 10)))) (ks.map D.int) (rT w h t rk g o5 none none)=some (.nx (rT w h t rk g' n8 none none))/\Pg g'/\g'.C=g.C++ks.map (λk=>plain (k % 10))/\Sa g g'
 |[],g,o5,p,_=>#[g,o5,rfl,p,(acw _).symm,.refl]
 |k::ks,g,o5,p,hl=>by
  rw[acF] at hl;let#[g1,e,p1,c1,s1]:=p.ask (r:=k % 10) #[by lia,by lia] (by lia);let#[g2,o2,d7,p2,c2,s2]:=M7 (ks:=ks) (g:=g1) (o5:=some k) p1 (by rw[c1,aa3,ac7];lia);refine#[g2,o2,(jx (bf:=rT w h t rk g (some k) none none) rfl (jK (xA (ps:=[(.int (k % 10),.own),(iL [],.own),(eL [],.own)]) rfl (by rw[aM,aQ (d:=.int (k % 10)) rfl rfl (Uc k)];rfl) rfl e))).trans d7,p2,by rw[c2,c1,aaB,ae4];rfl,s1.trans s2]
theorem Lu:∀{ks:List Int}{g:G}{o6:Option Int},(∀k∈ks,0<=k/\k<=9)->Pg g->g.C.length+ks.length<=60->∃g' Zi,dD (gN 6) (.sh []) (B1 (aj 6)) (ks.map D.int) (rT w h t rk g o5 o6 none)=some (.nx (rT w h t rk g' o5 Zi none))/\Pg g'/\g'.C=g.C++ks.map plain/\Sa g g'
 |[],g,o6,_,p,_=>#[g,o6,rfl,p,(acw _).symm,.refl]
 |k::ks,g,o6,hk,p,hl=>by
  rw[acF] at hl;let#[g1,e,p1,c1,s1]:=p.ask (r:=k) (hk k aah) (by lia);let#[g2,o2,d7,p2,c2,s2]:=Lu (ks:=ks) (g:=g1) (o6:=some k) (λk m=>hk k (aab _ m)) p1 (by rw[c1,aa3,ac7];lia);refine#[g2,o2,(jx (bf:=rT w h t rk g o5 (some k) none) rfl ((jK (xA (ps:=[(.int k,.sh []),(iL [],.own),(eL [],.own)]) rfl rfl rfl e)).trans ?_)).trans d7,p2,by rw[c2,c1,aaB,ae4];rfl,s1.trans s2];ext o5<;>rfl
def QY(s:Str)(i:Int)(h:PyData.strOk s=true:=by decide +kernel):nN [cR s (.int i),cR s (.int i)]=some (.bl true):=
 Dz (n:=1) (Hu (n:=3) (λd m=>by
  rcases aaO.mp m with rfl|m
  .exact Fy s
  .rw[aav.mp m];apply M6 i) (by show 2<=100;decide)) (GC (n:=0) λd m=>by
  rcases aaO.mp m with rfl|m
  .exact IA s h
  .rw[aav.mp m];apply TH i) (by decide)
def is1(s:Str)(h:PyData.strOk s=true:=by decide +kernel):nN [.tup [.str s],.tup [.str s]]=some (.bl true):=
 Dz (n:=1) (Hu (n:=3) (λd m=>by rw[aav.mp m];apply Fy s) (by show 1<=100;decide)) (GC (n:=0) λd m=>by rw[aav.mp m];apply IA s h) (by decide)
theorem K7:∀(n:Nat) (a:Int) (k:Nat),k<n->ix (aJ a n) (a+k)=k
 |0,_,_,h=>absurd h (by lia)
 |n+1,a,k,h=>by
  have e:aJ a (n+1)=a::aJ (a+1) n:=by
   unfold aJ;rw[List.range_succ_eq_map,aaB,adK]
   congr 1
   .show a+((0:Nat):Int)=a
    lia
   .refine afw λi _=>?_
    show a+((i+1:Nat):Int)=a+1+i
    lia
  rw[e];unfold ix;cases k with
  |zero=>rw[aiF (by simp)];rfl
  |succ k=>
   rw[aiG (by simp;lia),acF];have ih:=K7 n (a+1) k (by lia);unfold ix at ih;rw[show a+((k+1:Nat):Int)=a+1+k by lia]
   lia
theorem Pg.laid(p:Pg g){k:Nat}(h:k<min g.C.length g.w.toNat):fV [gD g,.int ((k:Int)+1)]=some (cR "laid" (.int k)):=by
 have e:=Eh (x:=(k:Int)+1) p.gd (by lia) (by rw[p.ln];apply acL) (by show bB g.gr _=false;rw[p.gr];rfl) (by rw[p.ld];apply dX.mpr (by lia));rw[p.ld,Int.add_comm,K7 _ _ _ h,Int.add_comm] at e;apply e
abbrev W1(s:Str):SF:=dN (iW (tV (bC nN (ao (bC fV (ao (aj 4) (ao (e2 f9 (aj 5) (eC (.int 1))) aA))) (ao (ia (ao (eC (.str s)) (ao (aj 5) aA))) aA))))) (iB (eC (.bl false))) eO
def AG(h:tf Y=some false):dN tf sf eO Y=some (.nx Y):=by rw[iO,h];rfl
theorem Qo:∀{ks:List Nat}{o5:Option Int},(∀k∈ks,fV [gD g,.int ((k:Int)+1)]=some (cR "laid" (.int k)))->∃n8,dD (gN 5) (.sh []) (W1 "laid") (ks.map λk:Nat=>D.int k) (rT w h t rk g o5 o6 o7)=some (.nx (rT w h t rk g n8 o6 o7))
 |[],o5,_=>#[o5,rfl]
 |k::ks,o5,hk=>by
  let#[o,e]:=Qo (ks:=ks) (o5:=some (k:Int)) λj m=>hk j (aab _ m)
  refine#[o,(jx (bf:=rT w h t rk g (some (k:Int)) o6 o7) rfl (AG (kN (b:=true) (bA (bP (ps:=[(cR "laid" (.int k),.own),(cR "laid" (.int k),.sh [])]) ?_ (QY "laid" k)))))).trans e];rw[aM,aM,bP (ps:=[(gD g,.sh [4]),(.int ((k:Int)+1),.own)]) rfl (hk k aah)];rfl
def abx(h:lex a b=true):lex b a=false:=by
 have h:=aaK h;apply aa8 (by lia)
def RE:lex a a=false:=aa8 (by lia)
theorem Ud{pr:Int->Int×Int}:∀{s:List Int},s.Pairwise (λa b=>lex (pr a) (pr b)=true)->x∈s->s.takeWhile (λy=>!(y==x))=s.filter λy=>lex (pr y) (pr x)
 |[],_,m=>nomatch m
 |a::s,hs,m=>by
  let#[h1,h2]:=aew.mp hs
  by_cases e:a=x
  .subst e;rw[aiF (by simp),aiv (by rw[RE];apply aa2)];apply(ah5.mpr λb mb=>by rw[abx (h1 b mb)];apply aa2).symm
  .have m:x∈s:=(aaO.mp m).resolve_left λz=>e z.symm
   rw[aiG (by simp[e]),ag1 (p:=λy=>lex (pr y) (pr x)) (h1 x m),Ud h2 m]
def RA{pr:Int->Int×Int}{l:List Int}(nd:(l.map pr).Nodup)(hx:x∈l):ix (ir pr l) x=((l.filter λy=>lex (pr y) (pr x)).length:Nat):=by
 unfold ix;rw[Ud (GZ nd) ((qy l).mem_iff.mpr hx)];rw[((qy l).filter _).length_eq]
def ahead(rk:List Int)(k:Nat)(r:Int):Nat:=(rk.filter λy=>decide (r<y)).length+((rk.take k).filter λy=>y==r).length
def aaf(a:Int)(n:Nat):aJ a (n+1)=a::aJ (a+1) n:=by
 unfold aJ;rw[List.range_succ_eq_map,aaB,adK]
 congr 1
 .show a+((0:Nat):Int)=a
  lia
 .refine afw λi _=>?_
  show a+((i+1:Nat):Int)=a+1+i
  lia
theorem Ma(r:Int)(f:Int->Int)(z:Int):∀(rk:List Int) (a:Int),(∀j:Nat,∀q,rk[j]? = some q->f (a+j)=q)->
  ((aJ a rk.length).filter λy=>lex (-(f y),y) (-r,z)).length=ahead rk (z-a).toNat r
 |[],_,_=>by unfold ahead;rw[List.take_nil];rfl
 |q::rk,a,h=>by
  have h0:f a=q:=by
   have:=h 0 q rfl
   rwa [show a+((0:Nat):Int)=a by lia] at this
  have ih:=Ma r f z rk (a+1) λj q' e'=>by
   have:=h (j+1) q' (by rw[List.getElem?_cons_succ];apply e')
   rwa [show a+((j+1:Nat):Int)=a+1+j by lia] at this
  rw[acF,aaf,ag3,h0];unfold ahead at ih ⊢;have l0:lex (-q,a) (-r,z)=decide (r<q\/q=r/\a<z):=by
   unfold lex;apply aiz.mpr (by show(-q < -r\/-q=-r/\a<z)↔_;lia)
  rw[l0,ag3]
  by_cases hz:a<z
  .rw[show(z-a).toNat=(z-(a+1)).toNat+1 by lia,List.take_succ_cons,ag3]
   by_cases h1:r<q
   .have h2:¬q=r:=by lia
    simp[h1,h2,ih];lia
   .by_cases h2:q=r
    .simp[h2,hz,ih];lia
    .simp[h1,h2,ih]
  .rw[show(z-a).toNat=0 by lia];rw[show(z-(a+1)).toNat=0 by lia] at ih
   by_cases h1:r<q
   .simp[h1,ih]
   .simp[h1,hz,ih]
def Pg.gq(p:Pg g){m n:Nat}(hm:g.w.toNat=m)(hC:g.C.length=m+n):K65.wl g=aJ ((m:Int)+1) n:=by
 have ld:g.ld=aJ 1 m:=by rw[p.ld,hC,hm,show min (m+n) m=m by lia]
 have a:∀x,x∈K65.wl g↔x∈aJ ((m:Int)+1) n:=λx=>by
  rw[mZ,dX,p.ln,ld,dX,hC];have:fX g x=false:=by show bB g.gr x=false;rw[p.gr];rfl
  simp only[this,acL,not_false_eq_true,true_and,and_true]
  lia
 refine List.Perm.eq_of_pairwise (le:=λx y:Int=>x<y) (λx y _ _ h1 h2=>by lia) BS (vM _ _) ?_;apply(List.perm_ext_iff_of_nodup yF ((vM _ _).imp λh=>by lia)).mpr a
theorem Pg.turn(p:Pg g){m:Nat}{A:List Ch}{rk:List Int}(hm:g.w.toNat=m)(hC:g.C=A++rk.map plain)(hA:A.length=m){k:Nat}{q:Int}(hk:rk[k]? = some q):fV [gD g,.int ((m:Int)+k+1)]=some (cR "turn" (.int (ahead rk k q))):=by
 have hl:g.C.length=m+rk.length:=by rw[hC,aa3,List.length_map,hA]
 have kl:k<rk.length:=(ac0.mp hk).1;have hx:1<=(m:Int)+k+1/\(m:Int)+k+1<=(g.C.length:Int):=by rw[hl];lia
 have hw:=p.gq hm hl;have mw:(m:Int)+k+1∈K65.wl g:=by rw[hw];apply dX.mpr (by lia)
 let#[h1,h2,h3,h4]:=mZ.mp mw;let#[v,hv]:=p.gd.run;let#[r,er,_]:=p.ch hx.1 hx.2;have ly:j6 g v=K65.wl g:=by
  unfold j6;rw[aiw.mpr λx mx=>(p.ch (K65.gq x mx).1 (K65.gq x mx).2).elim λr e=>O9 (K65.gq x mx).1 (K65.gq x mx).2 e.1,aiw.mpr λx mx=>(p.ch (K65.gq x mx).1 (K65.gq x mx).2).elim λr e=>Tq e.1]
 have at_:∀j:Nat,∀q,rk[j]? = some q->(K65.ch g.C ((m:Int)+1+j)).1=q:=λj q e=>by
  have:K65.ch g.C ((m:Int)+1+j)=plain q:=by
   unfold K65.ch;rw[show((m:Int)+1+j-1).toNat=m+j by lia,hC,afs (by lia),show m+j-A.length=j by lia,adm,e];rfl
  rw[this];rfl
 have t:=Ra p.gd p.ht hx (by unfold gO;rw[<- ko hx.1 hx.2,er];rfl) (nE p.ta) hv (by unfold cG;rw[er];rfl) (by rw[ly];apply mw);have nd:=Bf (C:=g.C) (K65.gq (g:=g)) yF;rw[ly,RA nd mw] at t;have e:(K65.wl g).filter (λy=>lex (pr g.C y) (pr g.C ((m:Int)+k+1)))=(aJ ((m:Int)+1) rk.length).filter λy=>lex (-(K65.ch g.C y).1,y) (-q,(m:Int)+k+1):=by
  rw[<- hw];refine aiX λy my=>?_
  rw[p_ (K65.gq y my).1 (K65.gq y my).2,p_ hx.1 hx.2,show(m:Int)+k+1=(m:Int)+1+k by lia,at_ k q hk]
 rw[e,Ma q (λy=>(K65.ch g.C y).1) _ rk _ at_,show((m:Int)+k+1-((m:Int)+1)).toNat=k by lia] at t;apply vI p.gd hx h2 h4 h3 t rfl
def rU(w h t:Int)(rk:List Int)(g:G)(o5 o6:Option Int)(s7:Slot):aU:=[some (.int w,.sh []),some (.int h,.sh []),some (.int t,.sh []),some (iL rk,.sh []),some (gD g,.own),sO o5,sO o6,s7]
def QD{k:Nat}(hk:rk[k]? = some q):e2 fC (aj 1) (aj 2) [s0,some (iL rk,.sh []),some (.int (k:Int),.sh [])]=some (.int q,.own):=by
 refine aQ rfl rfl (uF (ds:=rk.map D.int) ?_ rfl);have e:=IJ (f:=D.int) (L:=rk) (m:=(k:Int)+1) (l:=q) (by lia) (by have:=(ac0.mp hk).1;lia) (by rw[show((k:Int)+1-1).toNat=k by lia];apply hk)
 rwa [show(k:Int)+1-1=k by lia] at e
def aaI{k:Nat}(hk:rk[k]? = some q)(hl:rk.length<=100):e1 fW (eW [none,some 3,some 5] (fG (aj 3)) (gN 0) (tV (e2 qk (aj 0) (e2 fC (aj 1) (aj 2)))) (aj 0)) (rU w h t rk g (some (k:Int)) o6 s7)=some (.int (rk.filter λy=>decide (q<y)).length,.own):=
 cN (lS (r:=[some (iL rk,.sh []),some (.int (k:Int),.sh [])]) (gX rfl) (by lia) (λx=>rfl) (λx mx=>bA (aQ rfl (QD hk) rfl))) (by show fW (.lst ((rk.filter λy=>decide (q<y)).map D.int))=_;rw[oZ,List.length_map])
def Yd{k:Nat}(hk:rk[k]? = some q)(hl:rk.length<=100):e1 fW (eW [none,some 3,some 5] (fG (oY (aj 3) (aj 5))) (gN 0) (tV (e2 oEq (aj 0) (e2 fC (aj 1) (aj 2)))) (aj 0)) (rU w h t rk g (some (k:Int)) o6 s7)=some (.int ((rk.take k).filter λy=>y==q).length,.own):=by
 have kl:=(ac0.mp hk).1;have hc:oY (aj 3) (aj 5) (rU w h t rk g (some (k:Int)) o6 s7)=some (iL (rk.take k),.own):=by
  show(if aP (rk.map D.int)=true then some (D.lst (cutD (rk.map D.int) none (some (k:Int))),Tag.own) else none)=_;rw[if_pos (fm _),D_ (by rw[List.length_map];lia),<- aiT];rfl
 apply cN (lS (r:=[some (iL rk,.sh []),some (.int (k:Int),.sh [])]) (gX hc) (by rw[ah9];lia) (λx=>rfl) (λx mx=>bA (aQ rfl (QD hk) OW))) (by show fW (.lst (((rk.take k).filter λy=>y==q).map D.int))=_;rw[oZ,List.length_map])
abbrev B3:SF:=cz (dw 7 (e1 fW (eW [none,some 3,some 5] (fG (aj 3)) (gN 0) (tV (e2 qk (aj 0) (e2 fC (aj 1) (aj 2)))) (aj 0)))) (cz (dw 7 (e2 f9 (aj 7) (e1 fW (eW [none,some 3,some 5] (fG (oY (aj 3) (aj 5))) (gN 0) (tV (e2 oEq (aj 0) (e2 fC (aj 1) (aj 2)))) (aj 0))))) (dN (iW (tV (bC nN (ao (bC fV (ao (aj 4) (ao (e2 f9 (e2 f9 (aj 0) (aj 5)) (eC (.int 1))) aA))) (ao (ia (ao (eC (.str "turn")) (ao (aj 7) aA))) aA))))) (iB (eC (.bl false))) eO))
def ahy{k:Nat}(hk:rk[k]? = some q)(hl:rk.length<=100)(hy:fV [gD g,.int (w+k+1)]=some (cR "turn" (.int (ahead rk k q)))):B3 (rU w h t rk g (some (k:Int)) o6 s7)=some (.nx (rU w h t rk g (some (k:Int)) o6 (some (.int (ahead rk k q),.own)))):=by
 refine b7 (aaI hk hl) (b7 (d:=.int (ahead rk k q)) (t:=.own) (aQ rfl (Yd (s7:=some (.int (rk.filter λy=>decide (q<y)).length,.own)) hk hl) rfl) (AG (kN (b:=true) (bA (bP (ps:=[(cR "turn" (.int (ahead rk k q)),.own),(cR "turn" (.int (ahead rk k q)),.sh [7])]) ?_ (QY "turn" _))))));rw[aM,aM,bP (ps:=[(gD g,.sh [4]),(.int (w+k+1),.own)]) rfl hy];rfl
theorem NS:∀{ks:List Nat}{o5:Option Int}{s7:Slot},(∀k∈ks,∃q,rk[k]? = some q/\fV [gD g,.int (w+k+1)]=some (cR "turn" (.int (ahead rk k q))))->rk.length<=100->∃n8 Et,dD (gN 5) (.sh []) B3 (ks.map λk:Nat=>D.int k) (rU w h t rk g o5 o6 s7)=some (.nx (rU w h t rk g n8 o6 Et))/\(Et=s7\/∃i,Et=some (.int i,.own))
 |[],o5,s7,_,_=>#[o5,s7,rfl,.inl rfl]
 |k::ks,o5,s7,hk,hl=>by
  let#[q,h1,h2]:=hk k aah;let#[o,s,e,hs]:=NS (ks:=ks) (o5:=some (k:Int)) (s7:=some (.int (ahead rk k q),.own)) (λj m=>hk j (aab _ m)) hl;apply#[o,s,(jx (bf:=rU w h t rk g (some (k:Int)) o6 s7) rfl (ahy h1 hl h2)).trans e,.inr (hs.elim (λe=>#[_,e]) id)]
def Ld(k:Gd g):Gd (cY g):=(k.cut (ld:=[]) (gr:=g.gr) List.nil_prefix k.gr λx m=>k.ue x (by rw[acw] at m;apply aa4 _ m)).re g.ta g.lk true g.gw g.en g.an (g.br+1)
def Pg.stop(p:Pg g):Cu (gD g) []=some (.aC,gD (cI (cY g))):=by
 have k:=Ld p.gd;refine P5 (mX k (n:=0) ?_ (by decide) k);rw[nI (uv (g:=cY g) p.gr)];apply .ht rfl
theorem Pg.stopped(p:Pg g)(hx:1<=x/\x<=(g.C.length:Int)):fV [gD (cI (cY g)),.int x]=some (.tup [.str "stopped"]):=
 vI (g:=cI (cY g)) (i8 (Ld p.gd)) hx (by show x∉g.ln;rw[p.ln];apply acL) (by show bB g.gr x=false;rw[p.gr];rfl) (by show x∉([]:List Int);apply acL) (afQ rfl) rfl
abbrev W4:SF:=dN (iW (tV (bC nN (ao (bC fV (ao (aj 4) (ao (e2 f9 (aj 5) (eC (.int 1))) aA))) (ao (ia (ao (eC (.str "stopped")) aA)) aA))))) (iB (eC (.bl false))) eO
theorem O3:∀{ks:List Nat}{o5:Option Int},(∀k∈ks,fV [gD g,.int ((k:Int)+1)]=some (.tup [.str "stopped"]))->∃n8,dD (gN 5) (.sh []) W4 (ks.map λk:Nat=>D.int k) (rU w h t rk g o5 o6 s7)=some (.nx (rU w h t rk g n8 o6 s7))
 |[],o5,_=>#[o5,rfl]
 |k::ks,o5,hk=>by
  let#[o,e]:=O3 (ks:=ks) (o5:=some (k:Int)) λj m=>hk j (aab _ m)
  refine#[o,(jx (bf:=rU w h t rk g (some (k:Int)) o6 s7) rfl (AG (kN (b:=true) (bA (bP (ps:=[(.tup [.str "stopped"],.own),(.tup [.str "stopped"],.own)]) ?_ (is1 "stopped")))))).trans e];rw[aM,aM,bP (ps:=[(gD g,.sh [4]),(.int ((k:Int)+1),.own)]) rfl (hk k aah)];rfl
def AO(n:Nat):(aJ 0 n).map D.int=(List.range n).map λk:Nat=>D.int k:=by
 unfold aJ;rw[adK];apply afw λi _=>congrArg D.int (Int.zero_add _)
def aeU{w:Nat}{rk:List Int}(hw:1<=w/\w<=16)(hh:1<=h/\h<=8)(ht:1<=t/\t<=20)(hr:∀k∈rk,0<=k/\k<=9)(hl:rk.length<=12):abB [.int w,.int h,.int t,iL rk]=some (.bl true):=by
 have hW:1<=(w:Int)/\(w:Int)<=16:=by lia
 have p0:Pg (g0 w h 1 t):=yU hW hh #[by decide,ht.1,ht.2];have n0:=RN hW hh (n:=1) #[by decide,ht.1,ht.2];let#[g1,o1,ja,p1,c1,s1]:=M7 (w:=w) (h:=h) (t:=t) (rk:=rk) (ks:=aJ 0 w) (o5:=none) p0 (by rw[c_];show 0+w<=60;lia);have l1:g1.C.length=w:=by rw[c1,aa3,List.length_map,c_];apply Nat.zero_add w
 let#[g2,o2,d7,p2,c2,s2]:=Lu (w:=w) (h:=h) (t:=t) (rk:=rk) (o5:=o1) (ks:=rk) (o6:=none) hr p1 (by rw[l1];lia);have l2:g2.C.length=w+rk.length:=by rw[c2,aa3,List.length_map,l1]
 have w2:g2.w=w:=s2.w.trans s1.w;have wn:g2.w.toNat=w:=by rw[w2];rfl
 let#[o3,e3]:=Qo (w:=w) (h:=h) (t:=t) (rk:=rk) (g:=g2) (ks:=List.range w) (o5:=o1) (o6:=o2) (o7:=none) λk m=>p2.laid (by have:=ahD.mp m;lia)
 let#[o4,s4,e4,hs4]:=NS (w:=w) (h:=h) (t:=t) (rk:=rk) (g:=g2) (ks:=List.range rk.length) (o5:=o3) (o6:=o2) (s7:=none) (λk m=>by
  have:=ahD.mp m;apply#[rk[k],abm this,p2.turn wn c2 l1 (abm this)]) (by lia)
 let#[o5,e5]:=O3 (w:=w) (h:=h) (t:=t) (rk:=rk) (g:=cI (cY g2)) (ks:=List.range (w+rk.length)) (o5:=o4) (o6:=o2) (s7:=s4) λk m=>p2.stopped (by have:=ahD.mp m;rw[l2];lia)
 have k5:(cI (cY g2)).C.length=w+rk.length:=l2;have f0:=Od (g:=cI (cY g2)) (x:=0) (by rw[k5];lia) (by unfold inR;rfl) (by decide);have f1:=Od (g:=cI (cY g2)) (x:=(w:Int)+rk.length+1) (by rw[k5];lia) (by rw[k5];unfold inR;rw[aa8 (show ¬(w:Int)+rk.length+1<=((w+rk.length:Nat):Int) by lia),Bool.and_false]) (by lia);refine bq rfl (sq (Y':=rT w h t rk (g0 w h 1 t) none none none) ?_ (sq (lM (pI (n:=w) rfl (by lia)) ja) (sq (Y':=rT w h t rk g2 o1 o2 none) ?_ (sq (lM (pI (n:=w) rfl (by lia)) (by rw[AO];apply e3)) (sq (lM (pI (n:=rk.length) (t:=.own) ?_ (by lia)) (by rw[AO];apply e4)) (sq (Y':=rU w h t rk (cI (cY g2)) o4 o2 s4) ?_ (sq (lM (pI (n:=w+rk.length) (t:=.own) ?_ (by lia)) (by rw[AO];apply e5)) ?_)))))))
 .have mk:nA "Gate" zO (ao (aj 0) (ao (aj 1) (ao (eC (.int 1)) (ao (aj 2) aA)))) [some (.int w,.sh []),some (.int h,.sh []),some (.int t,.sh []),some (iL rk,.sh []),none,none,none,none]=some (gD (g0 w h 1 t),.own):=by
   show(match zO (.ins "Gate" []) [.int w,.int h,.int 1,.int t] with|some (.aC,d)=>some (d,Tag.own)|_=>none)=_;rw[n0]
  show dw 4 (nA "Gate" zO (ao (aj 0) (ao (aj 1) (ao (eC (.int 1)) (ao (aj 2) aA))))) [some (.int w,.sh []),some (.int h,.sh []),some (.int t,.sh []),some (iL rk,.sh []),none,none,none,none]=_;unfold dw;rw[mk];rfl
 .exact Ck (gX rfl) d7
 .exact cN rfl (by show fW (.lst (rk.map D.int))=_;rw[oZ,List.length_map])
 .refine(jK (xA (ps:=[]) rfl rfl rfl p2.stop)).trans ?_;rcases hs4 with rfl|⟨i,rfl⟩<;>ext o4<;>ext o2<;>rfl
 .refine aQ rfl (cN rfl (by show fW (.lst (rk.map D.int))=_;rw[oZ,List.length_map])) (by rw[show((w+rk.length:Nat):Int)=(w:Int)+rk.length by lia];rfl)
 .exact cu (mU (b:=true) (c:=true) (bP (ps:=[(gD (cI (cY g2)),.sh [4]),(.int 0,.own)]) rfl f0) (bP (ps:=[(gD (cI (cY g2)),.sh [4]),(.int ((w:Int)+rk.length+1),.own)]) (by rw[aM,aM,aQ (aQ rfl (cN rfl (show fW (iL rk)=some (.int rk.length) by show fW (.lst (rk.map D.int))=_;rw[oZ,List.length_map])) rfl) rfl rfl];rfl) f1))
def kP(l:List Int):Ch:=(9,l,[])
def aaD{n:Nat}{l:List Int}(hr:l.Pairwise (· < ·))(hl:∀x∈l,1<=x/\x<=(n:Int))(hn:n<=60):Gc n (kP l):=by
 have few:l.length<=n:=by
  have:=sub_len (l:=l) (m:=aJ 1 n) (hr.imp λh=>by lia) λx m=>dX.mpr (by have:=hl x m;lia)
  rwa [c_] at this
 refine#[ade _,hl,by show l.length<=60;lia,?_];have h2:l.all (λx=>inR x 1 n)=true:=aei.mpr λx m=>by unfold inR;rw[aaC (hl x m).1,aaC (hl x m).2];rfl
 unfold kP nH;rw[Na hr,h2];dsimp only;rfl
def Pg.abA(p:Pg g){l:List Int}(hw:g.w<=(g.C.length:Int))(hr:l.Pairwise (· < ·))(hl:∀x∈l,1<=x/\x<=(g.C.length:Int))(hn:g.C.length<60):jC (gD g) [.int (kP l).1,iL (kP l).2.1,eL (kP l).2.2]=some (.int (g.C.length+1),gD (cI (fJ g (kP l))))/\Gd (fJ g (kP l)):=
 KU (c:=kP l) p.one p.gd p.ta p.gr p.ht (aaD hr hl (by lia)) hn (by have:=p.gd.w1;rw[p.ld,c_];lia)
def Pg.aaH(p:Pg g){l:List Int}(hn:g.C.length<60):gO (cI (fJ g (kP l))) (g.C.length+1)=l.filter λy=>!decide (y∈g.ld):=by
 have e:lean (sec (g.C++[kP l])) ((g.C.length:Int)+1)=l:=by
  rw[<- ko (by lia) (by rw[aa3,ac7];lia),zK];rfl
 show(lean (sec (g.C++[kP l])) ((g.C.length:Int)+1)).filter (λy=>!decide (y∈g.ln++g.ld))=_;rw[e,p.ln];rfl
def Pz(k:Nat)(d:D):Prop:=(∀n,k<n->FL n [d]=some (.bl true))/\Lz k d
def Pz.up(h:Pz k d)(l:k<=m):Pz m d:=#[λn q=>h.1 n (by lia),h.2.up l]
def kX(i:Int):Pz 0 (.int i):=#[λn q=>by
 obtain⟨m,rfl⟩:∃m,n=m+1:=#[n-1,by lia]
 apply M6 i,TH i]
def C9(s:Str)(h:PyData.strOk s=true:=by decide +kernel):Pz 0 (.str s):=#[λn q=>by
 obtain⟨m,rfl⟩:∃m,n=m+1:=#[n-1,by lia]
 apply Fy s,IA s h]
def C_{ds:List D}(h:∀d∈ds,Pz k d)(hl:ds.length<=100):Pz (k + 1) (.tup ds):=#[λn q=>by
 obtain⟨m,rfl⟩:∃m,n=m+1:=#[n-1,by lia]
 apply Hu (λd md=>(h d md).1 m (by lia)) hl,GC λd md=>(h d md).2]
def N4{ds:List D}(h:∀d∈ds,Pz k d)(hl:ds.length<=100):Pz (k + 1) (.dH ds):=#[λn q=>by
 obtain⟨m,rfl⟩:∃m,n=m+1:=#[n-1,by lia]
 apply aeL (λd md=>(h d md).1 m (by lia)) hl,Rp λd md=>(h d md).2]
def JJ(l:List Int):∀d∈l.map D.int,Pz 0 d:=λd m=>by
 let#[i,_,rfl]:=acg.mp m;apply kX i
def S5(h:Pz k a):Pz (k+1) (.tup [a]):=C_ (λd m=>by rw[aav.mp m];apply h) (by show 1<=100;decide)
def iX(s:Str)(h:Pz k d)(hs:PyData.strOk s=true:=by decide +kernel):Pz (k + 1) (cR s d):=C_ (λx m=>by
 rcases aaO.mp m with rfl|m
 .exact(C9 s hs).up (ade _)
 .rw[aav.mp m];apply h) (by show 2<=100;decide)
def Vi{ds:List D}(h:Pz k (.tup ds))(hk:k<4):nN [.tup ds,.tup ds]=some (.bl true):=Dz (h.1 4 hk) h.2 (by lia)
def say{ds:List D}(hi:aj i Y=some (gD g,t))(hx:fx Y=some (.int x,t2))(hw:fV [gD g,.int x]=some (.tup ds))(hd:fd Y=some (.tup ds,t3))(h:Pz k (.tup ds))(hk:k<4:=by decide):bC nN (ao (bC fV (ao (aj i) (ao fx aA))) (ao fd aA)) Y=some (.bl true,.own):=by
 refine bP (ps:=[(.tup ds,.own),(.tup ds,t3)]) ?_ (Vi h hk);rw[aM,bP (ps:=[(gD g,t),(.int x,t2)]) ?_ hw,aM,hd]
 .rfl
 .rw[aM,hi,aM,hx];rfl
theorem A2{S:G->Option Int->aU}{f:SF}{r:Int}(hg:∀g o k,gN j (.int k) (.sh []) (S g o)=some (S g (some k)))(hf:∀g g' v k,jC (gD g) [.int r,iL [],eL []]=some (v,gD g')->f (S g (some k))=some (.nx (S g' (some k))))(hr:0<=r/\r<=9):∀{ks:List Int} {g o},Pg g->g.C.length+ks.length<=60->∃g' o',dD (gN j) (.sh []) f (ks.map D.int) (S g o)=some (.nx (S g' o'))/\Pg g'/\g'.C=g.C++List.replicate ks.length (plain r)/\Sa g g'
 |[],g,o,p,_=>#[g,o,rfl,p,(acw _).symm,.refl]
 |k::ks,g,o,p,hl=>by
  rw[acF] at hl;let#[g1,e,p1,c1,s1]:=p.ask hr (by lia);let#[g2,o2,d7,p2,c2,s2]:=A2 hg hf hr (ks:=ks) (g:=g1) (o:=some k) p1 (by rw[c1,aa3,ac7];lia);apply#[g2,o2,(jx (hg g o k) (hf g g1 _ k e)).trans d7,p2,by rw[c2,c1,ae4];rfl,s1.trans s2]
def S9(h:-(2 ^ 64)<x/\x<2 ^ 64):pO x y=true:=by unfold pO;rw[aaC h.1,aaC h.2];rfl
def Y3(h:-(2 ^ 64)<y/\y<2 ^ 64):pO x y=true:=by unfold pO;rw[aaC h.1,aaC h.2];apply Bool.or_true _
def mx(n p m:Int):Int:=n % 1000003*48271 % p % m
def YF(hp:0<p)(hm:0<m):sA [.int n,.int p,.int m]=some (.int (mx n p m)):=
 bq rfl (cu (aQ (aQ (aQ (aQ rfl rfl (qH (by decide))) rfl (Fo (Y3 (by decide)))) rfl (qH hp)) rfl (qH hm)))
def qL(h:f Y=some (.int n,t))(hp:0<p)(h3:f3 Y=some (.int m,t3))(hm:0<m):bC sA (ao f (ao (eC (.int p)) (ao f3 aA))) Y=some (.int (mx n p m),.own):=by
 refine bP (ps:=[(.int n,t),(.int p,.own),(.int m,t3)]) ?_ (YF hp hm);rw[aM,h,aM,aM,h3];rfl
def rL(t h c:Int)(g:G)(o4:Option Int)(s5 s6 s7:Slot):aU:=[some (.int t,.sh []),some (.int h,.sh []),some (.int c,.sh []),some (gD g,.own),sO o4,s5,s6,s7]
def gA(c:Int):List Int:=(aJ 1 6).filter λx=>mx (c+x*x) 50021 2==0
def adE{f:XF}(h:f Y=some (d,Y'))(h2:sg (jt Y' i d .own)=r):cz (wZ i f) sg Y=r:=sq (by unfold wZ;rw[h]) h2
def Ba(ha:ga Y=some ps)(hp:ps.map (·.1)=[.int w,.int h,.int n,.int t])(hw:1<=w/\w<=16)(hh:1<=h/\h<=8)(nt:1<=n/\n<=t/\t<=20):nA "Gate" zO ga Y=some (gD (g0 w h n t),.own):=by
 unfold nA;rw[ha,adG,hp,RN hw hh nt]
def agb(hh:1<=h/\h<=8)(ht:1<=t/\t<=20):ad7 [.int t,.int h,.int c]=some (.bl true):=by
 have hW:1<=(1:Int)/\(1:Int)<=16:=by decide
 have p0:Pg (g0 1 h 1 t):=yU hW hh #[by decide,ht.1,ht.2];let#[g1,o1,ja,p1,c1,s1]:=A2 (S:=λg o=>rL t h c g o none none none) (f:=sZ (xO 3 "Gate" "ask" jC (ao (eC (.int 0)) (ao (eZ aA) (ao (eZ aA) aA))))) (r:=0) (j:=4) (λ_ _ _=>rfl) (λg g' v k e=>jK (xA (ps:=[(.int 0,.own),(iL [],.own),(eL [],.own)]) rfl rfl rfl e)) (by decide) (ks:=aJ 0 6) (o:=none) p0 (by rw[c_];show 0+6<=60;decide);have l1:g1.C.length=6:=by rw[c1,aa3,adY,c_];rfl
 have w1:g1.w=1:=s1.w;have d1:g1.ld=[1]:=by rw[p1.ld,l1,w1];rfl
 have o8:∀x∈gA c,1<=x/\x<=6:=λx m=>by
  have:=dX.mp (adh.mp m).1
  lia
 let#[ea,k2]:=p1.abA (l:=gA c) (by rw[l1,w1];decide) ((vM _ _).sublist afr) (λx m=>by rw[l1];apply o8 x m) (by rw[l1];decide);have mi:=p1.aaH (l:=gA c) (by rw[l1];decide);rw[l1,d1,show((6:Nat):Int)+1=7 from rfl] at mi;rw[l1] at ea;have em:((gA c).filter λy=>!decide (y∈([1]:List Int)))=(gA c).filter λy=>decide (1<y):=aiX λy m=>by
  have:=o8 y m
  by_cases h:1<y
  .rw[aaC h,aa8 (show ¬y∈([1]:List Int) from λq=>by rw[aav.mp q] at h;apply absurd h (by decide))];rfl
  .rw[aa8 h,aaC (show y∈([1]:List Int) from aav.mpr (by lia))];rfl
 rw[em] at mi;generalize eg:cI (fJ g1 (kP (gA c)))=g2 at ea mi;have k3:Gd g2:=eg ▸ i8 k2;have C2:g2.C=g1.C++[kP (gA c)]:=eg ▸ rfl;have l2:g2.C.length=7:=by rw[C2,aa3,l1];rfl
 have t2:g2.ht=false:=eg ▸ p1.ht;have n2:g2.ln=[]:=eg ▸ p1.ln;have d2:g2.ld=[1]:=eg ▸ d1;have r2:g2.gr=[]:=eg ▸ p1.gr;have a2:g2.ta=[]:=eg ▸ p1.ta;have hx:1<=(7:Int)/\(7:Int)<=(g2.C.length:Int):=by rw[l2];decide
 have ho:fX g2 7=false:=by show bB g2.gr 7=false;rw[r2];rfl
 have wt:=λd hw hd=>vI (d:=d) k3 hx (by rw[n2];apply acL) ho (by rw[d2];decide) hw hd
 have q1:∀s6 s7,eW [none,some 2] (pV (eC (.int 1)) (eC (.int 7))) (gN 0) (tV (e2 oEq (bC sA (ao (e2 f9 (aj 1) (e2 AI (aj 0) (aj 0))) (ao (eC (.int 50021)) (ao (eC (.int 2)) aA)))) (eC (.int 0)))) (aj 0) (rL t h c g1 o1 none s6 s7)=some (iL (gA c),.own):=λs6 s7=>
  lS (r:=[some (.int c,.sh [])]) (yf (i:=1) (j:=7) rfl rfl rfl rfl) (by show(aJ 1 6).length<=_;rw[c_];decide) (λx=>rfl) λx m=>bA (aQ (qL (aQ rfl (aQ rfl rfl (Fo (S9 (by have:=dX.mp m;lia)))) rfl) (by decide) rfl (by decide)) rfl rfl)
 have q2:∀s7,ia (ao (eC (.str "leans")) (ao (wR (eW [none] (fG (aj 5)) (gN 0) (tV (e2 qk (aj 0) (eC (.int 1)))) (aj 0))) aA)) (rL t h c g2 o1 (some (iL (gA c),.own)) (some (.int 7,.own)) s7)=some (cR "leans" (.dH (((gA c).filter λy=>decide (1<y)).map D.int)),.own):=λs7=>by
  have f:wR (eW [none] (fG (aj 5)) (gN 0) (tV (e2 qk (aj 0) (eC (.int 1)))) (aj 0)) (rL t h c g2 o1 (some (iL (gA c),.own)) (some (.int 7,.own)) s7)=some (.dH (((gA c).filter λy=>decide (1<y)).map D.int),.own):=by
   unfold wR;rw[lS (l:=gA c) (p:=λy=>decide (1<y)) (r:=[]) (gX rfl) (by have:=ad9 (λx=>mx (c+x*x) 50021 2==0) (aJ 1 6);rw[c_] at this;show(gA c).length<=_;unfold gA;lia) (λx=>rfl) λx m=>rfl];show(if aP (((gA c).filter λy=>decide (1<y)).map D.int)=true then _ else none)=_;rw[if_pos (fm _)]
  rw[m6,aM,aM,f];rfl
 refine bq rfl (b7 (Ba rfl rfl hW hh #[by decide,ht.1,ht.2]) (sq (lM (pI (n:=6) rfl (by decide)) ja) (b7 (q1 none none) (adE (xA (ps:=[(.int 9,.own),(iL (gA c),.sh [5]),(eL [],.own)]) rfl rfl rfl ea) ?_))));have hE:cG g2.C 7=[]:=by
  unfold cG;rw[C2,show(7:Int)=(g1.C.length:Int)+1 by rw[l1];rfl,zK];rfl
 generalize m_:((gA c).filter λy=>decide (1<y))=lz at mi q2;have tc:∀Y,aj 7 Y=some (cR "leans" (.dH (lz.map D.int)),.sh [7])->tV (e2 qf (e2 fC (aj 7) (eC (.int 1))) (eZ aA)) Y=some (decide (lz=[])):=λY e=>by
  refine bA (aQ (d1:=.dH (lz.map D.int)) (d2:=.lst []) (aQ e rfl (UY rfl (fm lz))) rfl ?_);unfold qf;rw[((Rp (n:=0) λd m=>(JJ lz d m).2).lay (by decide)),show dg (.lst [])=true from rfl];ext lz<;>rfl
 have fin:∀ds,fV [gD g2,.int 7]=some (.tup ds)->Pz 2 (.tup ds)->iB (bC nN (ao (bC fV (ao (aj 3) (ao (aj 6) aA))) (ao (aj 7) aA))) (rL t h c g2 o1 (some (iL (gA c),.own)) (some (.int 7,.own)) (some (.tup ds,.own)))=some (.rt (.bl true)):=λds hw hp=>cu (say rfl rfl hw rfl hp)
 have hlz:lz.length<=100:=by
  have h1:=ad9 (λy=>decide (1<y)) (gA c);have h2:=ad9 (λx=>mx (c+x*x) 50021 2==0) (aJ 1 6);rw[c_] at h2;rw[m_] at h1;unfold gA at h1
  lia
 by_cases hz:lz=[]
 .subst hz;have mw:(7:Int)∈wl g2:=mZ.mpr #[hx,by rw[n2];apply acL,by rw[d2];decide,ho];have fr:iM g2.C (g2.ln++g2.ld) 7=true:=by
   have:(lean (sec g2.C) 7).filter (λy=>!decide (y∈g2.ln++g2.ld))=[]:=mi;unfold iM;apply aei.mpr λy my=>by
    have:=ah5.mp this y my;apply aaC (by simpa[Classical.or_iff_not_imp_left] using this)
  let#[v,hv]:=k3.run;have ml:(7:Int)∈j6 g2 v:=adh.mpr #[adh.mpr #[mw,fr],by unfold fU;rw[hE];rfl];have tn:=Ra k3 t2 hx mi (nE a2) hv (by rw[hE];rfl) ml;have hr:Row g2.C (j6 g2 v):=λy m=>gq y (adh.mp (adh.mp m).1).1
  have hnn:(j6 g2 v).Nodup:=(yF.sublist afr).sublist afr;rw[RA (Bf hr hnn) ml,show(j6 g2 v).filter (λy=>lex (pr g2.C y) (pr g2.C 7))=[] from ah5.mpr λy my=>by
   have hy:=hr y my;have c7:(ch g2.C 7).1=9:=by rw[C2,show(7:Int)=(g1.C.length:Int)+1 by rw[l1];rfl,zK];rfl
   rw[p_ hy.1 hy.2,p_ hx.1 hx.2,c7]
   by_cases h7:y=7
   .subst h7;rw[c7,RE];apply aa2
   .have cy:(ch g2.C y).1=0:=by
     rw[C2,AW hy.1 (by rw[l1];rw[l2] at hy;lia),c1];unfold ch;have:=List.mem_replicate.mp (List.getElem_mem (l:=List.replicate 6 (plain 0)) (n:=(y-1).toNat) (by rw[adY];rw[l2] at hy;lia));rw[show(g0 1 h 1 t).C++List.replicate (aJ 0 6).length (plain 0)=List.replicate 6 (plain 0) by rw[c_];rfl,abm (by rw[adY];rw[l2] at hy;lia),this.2];rfl
    rw[cy];unfold lex;apply λq=>by have:=aaK q;lia] at tn
  refine b7 (q2 none) (sq (Y':=rL t h c g2 o1 (some (iL (gA c),.own)) (some (.int 7,.own)) (some (cR "turn" (.int 0),.own))) ?_ (fin _ (wt _ tn rfl) ((iX "turn" (kX 0)).up (by decide))));refine tK (tc _ rfl) ?_;ext o1<;>rfl
 .have wh:=wt _ (LW k3 t2 hx (by rw[mi];apply hz)) (by unfold cR;simp only[aH,aP,fm,ahl]);rw[mi] at wh;refine b7 (q2 none) (sq (Y':=rL t h c g2 o1 (some (iL (gA c),.own)) (some (.int 7,.own)) (some (cR "leans" (.dH (lz.map D.int)),.own))) (JW ((tc _ rfl).trans (by rw[aa8 hz])) ?_) (fin _ wh (iX "leans" (N4 (JJ lz) (by rw[List.length_map];apply hlz)))));ext o1<;>rfl
def afd(hh:1<=aW)(hs:1<=size)(hk:kJ (size+1) ks)(h:ks=[]\/size∈ks):size∈W size none ks aW:=by
 rcases h with rfl|m
 .have l0:(([]:List Int).length:Int)<lim (size+1) aW:=by unfold lim;show(0:Int)<_;split<;>lia
  have ja:W size none [] aW=jV size none (size+1) aW 99 (ji size none (size+1) []):=if_pos l0;rw[ja];have r:=N7 (bad:=none) hk rfl (by show(0:Int)<_;lia);refine(BP (aW:=aW) (bad:=none) rfl 99 _ r.1).2 _ ?_;unfold ji;apply zx.mpr (aaS _ (aav.mpr rfl))
 .exact(agi (bad:=none) hk hh (by show 2<=size+1;lia)).2.1 _ m
def EO(k:Gd g)(hb:dM g=none)(hn:g.ld≠[])(h:jc g=[]\/(g.ld.length:Int)∈jc g):g.ln++g.ld∈qJ g:=by
 have hp:=List.length_pos_iff.mpr hn;have kr:=yk (g:=g);have b0:t_ g=none:=by unfold t_;rw[hb];rfl
 refine acg.mpr #[(g.ld.length:Int),?_,?_]
 .unfold rQ;rw[b0];apply afd k.h1.1 (by lia) #[kr.1,λx m=>by have:=kr.2.1 x m;lia] h
 .unfold ic;rw[aim,List.take_length]
def ZE(h:g.ld=[]):qJ g=[]:=by
 have a:=(Oz (g:=g)).1;have b:=(OL (g:=g)).2;rw[h] at b;unfold qJ;cases e:rQ g with
 |nil=>rfl
 |cons x r=>
  have:=a.bd x (e ▸ aah);simp at b
  lia
def agv(h:g.lk=[]):jc g=[]:=ah5.mpr λx _=>by
 unfold kp;rw[h];simp
def G8(k:Gd g)(hb:dM g=none)(ht:g.ht=false)(pl:∀x∈wl g,ch g.C x=(r,[],[])):∃ex,Fl g.C g.ln g.ld (wl g) g.w ex/\(dM (cK g ex)≠some 1->Ru g (cK g ex) 0)/\Gd (cK g ex):=by
 let#[ex,F,k2,h]:=zC k hb;refine#[ex,F,λsL=>.no ht ?_,k2]
 by_cases hz:g.ld++ex=[]
 .let#[ld,rfl]:=ag4.mp hz;have e:=F.pl r pl BS;rw[ld] at e;have w0:wl g=[]:=by
   rcases List.take_eq_nil_iff.mp e.symm with z|z
   .have:=k.w1;have z:(g.w-0).toNat=0:=z
    lia
   .exact z
  let#[u,v,_,_,q]:=(h sL).2 hz;have f0:aY g=[]:=by unfold aY;rw[w0];rfl
  rw[f0] at q;have eg:({ g with gr:=([]:List Int).foldl (ow g.C u) g.gr }:G)=cK g []:=by unfold cK;rw[ld];ext g;ext ld;rfl
  rw[eg] at q;apply q
 .exact(h sL).1 hz
def SX(k:Gd g)(hb:dM g=none)(sL:dM (cK g ((wl g).take g.w.toNat))≠some 1)(ld:g.ld=[])(ht:g.ht=false)(pl:∀x∈wl g,ch g.C x=(r,[],[])):Ru g (cK g ((wl g).take g.w.toNat)) 0/\Gd (cK g ((wl g).take g.w.toNat)):=by
 let#[ex,F,q,k2]:=G8 k hb ht pl;have e:=F.pl r pl BS;rw[ld] at e;rw[show(g.w-((([]:List Int).length:Nat):Int)).toNat=g.w.toNat by show(g.w-0).toNat=_;rw[Int.sub_zero]] at e;subst e;apply#[q sL,k2]
def Qf(h:g.ta=[]):dM g≠some 1:=by rw[nE h];apply λz=>nomatch z
def gg(g:G):G:={ cI (cY g) with ht:=false }
def f7(g:G):G:=cI (cK (gg g) ((wl (cY g)).take g.w.toNat))
def Ph(k:Gd g)(ta:g.ta=[])(lf:Lf (cY g))(pl:∀x∈wl (cY g),ch g.C x=(r,[],[])):Cu (gD g) []=some (.aC,gD (cI (cY g)))/\Gs (gD (cI (cY g))) []=some (.aC,gD (f7 g))/\Gd (f7 g)/\((wl (cY g)).take g.w.toNat≠[]->g.ln++(wl (cY g)).take g.w.toNat∈(f7 g).lk):=by
 have k1:=Ld k;have k2:Gd (gg g):=(i8 k1).re g.ta _ false g.gw g.en g.an _;have b0:=nE (g:=gg g) ta;let#[q,k3]:=SX (g:=gg g) (r:=r) k2 b0 (Qf ta) rfl rfl pl;refine#[P5 (mX k1 (n:=0) ?_ (by decide) k1),YX (mX k2 (n:=0) ?_ (by decide) k3),i8 k3,λhn=>?_]
 .rw[nI lf];apply .ht rfl
 .show Ru (gY (gg g)) _ 0;rw[nI (g:=gg g) lf];apply q
 .refine EO (g:=cK (gg g) ((wl (cY g)).take g.w.toNat)) k3 (nE (g:=cK (gg g) ((wl (cY g)).take g.w.toNat)) ta) hn (.inl (agv ?_));apply ZE (g:=cY g) rfl
def us(j:Nat):List Str:=List.replicate j "unsure"
def u0(L:List Int):Nat->Ta
 |0=>[]
 |j+1=>[(L,us (j+1))]
def IQ{L:List Int}:hd (u0 L j) L=us j:=by
 cases j with
 |zero=>rfl
 |succ j=>
  unfold hd mR gv u0;rw[ag6 (by simp)];rfl
def hd_1{L:List Int}:mR ([(L,h)]:Ta) l=if l=L then some h else none:=by
 unfold mR gv
 by_cases e:l=L
 .rw[if_pos e,ag6 (by simp[e])];rfl
 .rw[abo e,agx (by simp;apply λz=>e z.symm)];rfl
def Lx{L:List Int}:gp (u0 L j) L h=[(L,h)]:=by
 cases j with
 |zero=>rfl
 |succ j=>unfold u0 gp;simp
def K4:us j++[("unsure":Str)]=us (j+1):=by unfold us;rw[List.replicate_succ']
def vV(h:(("unsure":Str)==w)=false):iV w (us j)=0:=by
 unfold iV us;rw[List.countP_replicate,h];rfl
def Dj{j:Nat}(hj:(j:Int)<t):word 1 t (us j)="more":=by
 unfold word;rw[vV (w:="yes") (by decide +kernel),vV (w:="no") (by decide +kernel),abo (by decide),abo (by decide),abo (by unfold us;rw[adY];lia)]
def Yx{j:Nat}(hj:(j:Int)+1=t):word 1 t (us j++[("unsure":Str)])="unsure":=by
 rw[K4];unfold word;rw[vV (w:="yes") (by decide +kernel),vV (w:="no") (by decide +kernel),abo (by decide),abo (by decide),if_pos (by unfold us;rw[adY];lia)]
def ZJ:word 1 t (us j++[("no":Str)])="no":=by
 unfold word;rw[Nr,Nr,vV (w:="yes") (by decide +kernel),vV (w:="no") (by decide +kernel),abo (by decide +kernel),if_pos (by decide +kernel)]
structure Hv(w:Nat)(t:Int)(j:Nat)(g:G):Prop where
 gd:Gd g
 C:g.C=List.replicate (w+1) (plain 5)
 ln:g.ln=[]
 ld:g.ld=aJ 1 w
 gr:g.gr=[]
 ht:g.ht=false
 ww:g.w=w
 nn:g.n=1
 tt:g.t=t
 lk:aJ 1 w∈g.lk
 ta:g.ta=u0 (aJ 1 w) j
 en:g.en=[]
 gw:g.gw=[]
def Fi(w:Nat)(u:Str)(g:G):Prop:=(w=1->fV [gD g,.int 1]=some (cR "out" (.tup [.str "look",.tup [],.tup [.int 1],.str u]))/\fV [gD g,.int 2]=some (cR "laid" (.int 0)))/\
 (w≠1->fV [gD g,.int (w+1)]=some (cR "halving" (.int w))/\fV [gD g,.int 1]=some (cR "laid" (.int 0)))
def Di(w:Nat)(h:1<=w):aJ 1 w≠[]:=λz=>by
 have:=congrArg List.length z;rw[c_] at this;simp at this;lia
def ae5(ln:g.ln=[])(ld:g.ld=aJ 1 w)(hp:p<w):ic g p≠aJ 1 w:=λz=>by
 have:=congrArg List.length z;unfold ic at this;rw[ln,ld,List.nil_append,ah9,c_] at this
 lia
def Hv.tell(v:Hv w t j g)(hw:1<=w)(hj:(j:Int)<t)(ht:t<=20)(hu:u∈(["yes","no","unsure"]:List Str))(hy:(word 1 t (us j++[u]) == "yes")=false)(hs:oH (gD (jO g (aJ 1 w) u)) []=some (.aC,gD g3)):oX (gD g) [tD (aJ 1 w),.str u]=some (.str (word 1 t (us j++[u])),gD g3):=by
 have e0:hd g.ta (aJ 1 w)=us j:=by rw[v.ta,IQ]
 have hn:(g.ta.map (·.1)).Nodup:=by
  rw[v.ta];cases j with
  |zero=>apply .nil
  |succ j=>apply ab6.mpr #[acL,.nil]
 have hl:g.ta.length<=5000:=by
  rw[v.ta];cases j with
  |zero=>apply ade _
  |succ j=>show 1<=5000;decide
 have:=NP (L:=aJ 1 w) (w:=u) (g:=g) (g3:=g3) v.lk (Di w hw) v.gd hn hl hu (by rw[e0,v.nn,v.tt];apply Dj hj) (by rw[v.en];rfl) (by rw[v.en];apply ade _) (by rw[v.gw];apply ade _) (by rw[v.ln];apply ade _) (by rw[v.ln,v.ld,c_];show w<=0 + w;lia) (by
  unfold xX;rw[e0,v.nn,v.tt,hy];apply hs)
 rwa [e0,v.nn,v.tt] at this
def Hv.SS(v:Hv w t j g)(L:List Int)(u:Str):Gd (jO g L u):=v.gd.re _ g.lk g.ht g.gw _ _ g.br
theorem Hv.more(v:Hv w t j g)(hw:1<=w)(hj:(j:Int)+1<t)(ht:t<=20):∃g',oX (gD g) [tD (aJ 1 w),.str "unsure"]=some (.str "more",gD g')/\Hv w t (j+1) g':=by
 have e0:hd g.ta (aJ 1 w)=us j:=by rw[v.ta,IQ]
 have k1:=v.SS (aJ 1 w) "unsure";have wm:word 1 t (us j++[("unsure":Str)])="more":=by rw[K4];apply Dj (by lia)
 have kD:(jO g (aJ 1 w) "unsure").ta=u0 (aJ 1 w) (j+1):=by
  show gp g.ta (aJ 1 w) (hd g.ta (aJ 1 w)++[("unsure":Str)])=_;rw[e0,v.ta,Lx,K4];rfl
 have BK:(jO g (aJ 1 w) "unsure").en=[]:=by
  show(if(word g.n g.t (hd g.ta (aJ 1 w)++[("unsure":Str)]) == "more")=true then g.en else _)=_;rw[e0,v.nn,v.tt,wm];apply v.en
 generalize eg:jO g (aJ 1 w) "unsure"=g1 at k1 kD BK;have C1:g1.C=g.C:=eg ▸ rfl;have g7:g1.ln=[]:=eg ▸ v.ln;have fH:g1.ld=aJ 1 w:=eg ▸ v.ld;have j7:g1.gr=[]:=eg ▸ v.gr;have kK:g1.ht=false:=eg ▸ v.ht;have w1:g1.w=w:=eg ▸ v.ww;have n1:g1.n=1:=eg ▸ v.nn;have t1:g1.t=t:=eg ▸ v.tt;have Xh:g1.lk=g.lk:=eg ▸ rfl;have Gj:g1.gw=[]:=eg ▸ v.gw;have RI:∀l,wd g1 l="more":=λl=>by
  unfold wd;rw[kD];show(match mR [(aJ 1 w,us (j+1))] l with|none=>_|some h=>_)=_;rw[hd_1]
  split
  .rfl
  .rename_i h e
   split at e
   .cases e;rw[n1,t1];apply Dj (by lia)
   .cases e
 have b0:dM g1=none:=wH.mpr λp _ _=>by
  unfold lG;rw[RI];rfl
 let#[ex,F,k2,h]:=zC k1 b0;have ja:ex=[]:=by
  rcases F.le with z|z
  .rw[aa3,fH,c_,w1] at z;apply aht (by lia)
  .exact z
 subst ja;have ef:cK g1 []=g1:=by unfold cK;rw[acw]
 rw[ef,acw] at h;have q:=(h (by rw[b0];apply λz=>nomatch z)).1 (by rw[fH];apply Di w hw);refine#[cI g1,wm ▸ v.tell hw (by lia) ht (by simp) (by rw[wm];decide +kernel) ?_,#[i8 k1,C1.trans v.C,g7,fH,j7,kK,w1,n1,t1,?_,kD,BK,Gj]]
 .rw[eg];refine mX k1 (n:=0) ?_ (by decide) k1;rw[nI (uv j7)];apply .no kK q
 .have:=EO k1 b0 (by rw[fH];apply Di w hw) (.inr (adh.mpr #[dX.mpr (by rw[fH,c_];lia),by
   unfold kp;rw[RI,Xh,fH,c_,aim,show ic g1 w=aJ 1 w by unfold ic;rw[g7,fH,aiC (by rw[c_];apply abD _)];rfl,aaC v.lk];rfl]))
  rw[g7,fH] at this;apply this
def Aa{n:Nat}{c:Ch}(h1:1<=x)(h2:x<=(n:Int)):ch (List.replicate n c) x=c:=by
 have:=HM (L:=List.replicate n c) h1 (by rw[adY];apply h2);apply(List.mem_replicate.mp (ag2 this)).2
def Oe(h:∀x∈wl g,∃r,ch g.C x=(r,[],[])):Lf g:=λx m y my=>by
 let#[r,e]:=h x m;have a:=gq (g:=g) x m;rw[<- ko a.1 a.2,e] at my;ext my
def wd_1{L:List Int}{l:List Int}(h:g.ta=[(L,hh)]):wd g l=if l=L then word g.n g.t hh else "more":=by
 unfold wd;rw[h,hd_1]
 split<;>split at *<;>first|rfl|contradiction|(rename_i e _;ext e;rfl)|skip
 all_goals simp_all
def Hv.last{u:Str}(v:Hv w t j g)(hw:1<=w)(hj:(j:Int)<t)(ht:t<=20)(hu:u="no"\/u="unsure")(he:word 1 t (us j++[u])=u):∃g',oX (gD g) [tD (aJ 1 w),.str u]=some (.str u,gD g')/\Fi w u g':=by
 have e0:hd g.ta (aJ 1 w)=us j:=by rw[v.ta,IQ]
 have k1:=v.SS (aJ 1 w) u;have ub:bw u=true:=by rcases hu with rfl|rfl<;>decide +kernel
 have uy:(u==("yes":Str))=false:=by rcases hu with rfl|rfl<;>decide +kernel
 have um:u∈(["yes","no","unsure"]:List Str):=by rcases hu with rfl|rfl<;>simp
 have tell:=λg3=>v.tell (u:=u) (g3:=g3) hw hj ht um (by rw[he];apply uy)
 rw[he] at tell;have kD:(jO g (aJ 1 w) u).ta=[(aJ 1 w,us j++[u])]:=by
  show gp g.ta (aJ 1 w) (hd g.ta (aJ 1 w)++[u])=_;rw[e0,v.ta,Lx]
 generalize eg:jO g (aJ 1 w) u=g1 at k1 kD tell;have C1:g1.C=List.replicate (w+1) (plain 5):=eg ▸ v.C;have g7:g1.ln=[]:=eg ▸ v.ln;have fH:g1.ld=aJ 1 w:=eg ▸ v.ld;have j7:g1.gr=[]:=eg ▸ v.gr;have kK:g1.ht=false:=eg ▸ v.ht;have w1:g1.w=w:=eg ▸ v.ww;have n1:g1.n=1:=eg ▸ v.nn;have t1:g1.t=t:=eg ▸ v.tt;have l1:g1.C.length=w+1:=by rw[C1,adY]
 have CJ:∀l,wd g1 l=if l=aJ 1 w then u else "more":=λl=>by rw[wd_1 kD,n1,t1,he]
 have Fp:dM g1=some w:=by
  cases e:dM g1 with
  |none=>
   have:=wH.mp e w hw (by rw[fH,c_];apply abD _);unfold lG ic at this;rw[g7,fH,aiC (by rw[c_];apply abD _),CJ,List.nil_append,if_pos rfl,ub] at this;ext this
  |some p=>
   let#[a,b,c,_]:=Jr e;rw[fH,c_] at b
   by_cases hp:p<w
   .unfold lG at c;rw[CJ,abo (ae5 g7 fH hp)] at c;apply absurd c (by decide +kernel)
   .rw[show p=w by lia]
 have lp:Lf g1:=uv j7
 by_cases h1:w=1
 .subst h1;have fH:g1.ld=[1]:=fH;have po:=afU k1 Fp fH;have kO:Gd (iJ g1 1):=k1.cut (ld:=[]) List.nil_prefix (k1.gr.put (dX.mpr (by rw[l1];decide)) Rc) λx m=>by rw[g7] at m;ext m
  have gn:pH g1=.tup [.str "look",.tup [],.tup [.int 1],.str u]:=by
   unfold pH ic;rw[g7,fH,CJ,if_pos (show[]++List.take 1 [(1:Int)]=aJ 1 1 from rfl)];rfl
  have Ju:∀x,bB (iJ g1 1).gr x=decide (x=1):=λx=>by
   show bB (putD g1.gr (Sum.inl 1) (pH g1)) x=_;rw[tY,j7];apply Bool.or_false _
  have wlO:wl (iJ g1 1)=[2]:=by
   show(aJ 1 g1.C.length).filter (gx (iJ g1 1))=_;rw[l1,show aJ 1 (1+1)=[1,2] from rfl];have a:gx (iJ g1 1) 1=false:=by
    unfold gx fX;rw[Ju];show(_&&(_&&false))=false;rw[Bool.and_false,Bool.and_false]
   have b:gx (iJ g1 1) 2=true:=by
    unfold gx fX;rw[Ju];show(!decide ((2:Int)∈g1.ln)&&(!decide ((2:Int)∈([]:List Int))&&!decide ((2:Int)=1)))=true;rw[g7];rfl
   rw[aiv (by rw[a];apply aa2),ag1 b];rfl
  have Ue:∀x∈wl (iJ g1 1),ch (iJ g1 1).C x=(5,[],[]):=λx m=>by
   have:=gq (g:=iJ g1 1) x m;show ch g1.C x=_;rw[C1];apply Aa this.1 (by rw[<- l1];apply this.2)
  have lO:Lf (iJ g1 1):=Oe λx m=>#[5,Ue x m]
  have tk:(wl (iJ g1 1)).take (iJ g1 1).w.toNat=[2]:=by
   rw[wlO];show[2].take g1.w.toNat=_;rw[w1];rfl
  have bO:dM (cK (iJ g1 1) [2])=none:=wH.mpr λp h1 h2=>by
   have h2:p<=1:=h2;rw[show p=1 by lia];show bw (wd g1 (g1.ln++[2]))=false;rw[CJ,g7,abo (by decide)];rfl
  let#[rr,k2]:=SX (r:=5) kO (wH.mpr λp h1 h2=>by have h2:p<=0:=h2;lia) (by rw[tk,bO];apply λz=>nomatch z) rfl kK Ue;rw[tk] at rr k2;refine#[cI (cK (iJ g1 1) [2]),tell _ (mX k1 (n:=1) ?_ (by decide) k2),λ_=>?_,λh=>absurd rfl h]
  .rw[nI lp];apply .yes kK po kO (by rw[nI lO];apply rr)
  .have k3:=i8 k2;have qB:∀x,fX (cI (cK (iJ g1 1) [2])) x=decide (x=1):=Ju;have c3:(cI (cK (iJ g1 1) [2])).C.length=2:=l1;refine#[?_,?_]
   .have:=yY (x:=1) k3 (by rw[c3];decide) (by show(1:Int)∉g1.ln;rw[g7];apply acL) (qB 1);rw[show gk (cI (cK (iJ g1 1) [2])).gr 1=pH g1 by show(aZ (putD g1.gr (Sum.inl 1) (pH g1)) (Sum.inl 1:Key)).getD .aC=_;rw[BD];rfl,gn] at this;apply this
   .exact Eh (x:=2) k3 (by rw[c3];decide) (by show(2:Int)∉g1.ln;rw[g7];apply acL) (qB 2) (by show(2:Int)∈[2];decide)
 .have pb:=ac4 k1 Fp h1;refine#[cI g1,tell _ (mX k1 (n:=0) (by rw[nI lp];apply .no kK pb) (by decide) k1),λh=>absurd h h1,λ_=>#[?_,?_]]
  .have k3:=i8 k1;have hx:1<=(w:Int)+1/\(w:Int)+1<=((cI g1).C.length:Int):=by show _/\_<=((g1.C.length:Nat):Int);rw[l1];lia
   have hm:gO (cI g1) (w+1)=[]:=by
    unfold gO;rw[<- ko hx.1 hx.2];show List.filter _ (ch g1.C _).2.1=_;rw[C1,Aa (by lia) (by lia)];rfl
   apply vI k3 hx (by show _∉g1.ln;rw[g7];apply acL) (by show bB g1.gr _=false;rw[j7];rfl) (by show _∉g1.ld;rw[fH];apply λm=>by have:=dX.mp m;lia) (VW k3 kK hx hm Fp) rfl
  .have:=Eh (x:=1) (i8 k1) (by show _/\_<=((g1.C.length:Nat):Int);rw[l1];lia) (by show _∉g1.ln;rw[g7];apply acL) (by show bB g1.gr _=false;rw[j7];rfl) (by show _∈g1.ld;rw[fH];apply dX.mpr (by lia));rw[show ix (cI g1).ld 1=0 by show ix g1.ld 1=0;rw[fH];apply K7 w 1 0 (by lia)] at this;apply this
def rH(w h t:Int)(u:Str)(g:G)(o5:Option Int)(s6 s7:Slot):aU:=[some (.int w,.sh []),some (.int h,.sh []),some (.int t,.sh []),some (.str u,.sh []),some (gD g,.own),sO o5,s6,s7]
abbrev cH:TF:=tV (e2 qf (aj 7) (eC (.str "more")))
abbrev bH:SF:=wZ 7 (xO 4 "Gate" "answer" oX (ao (aj 6) (ao (aj 3) aA)))
def Lw:cH (rH w h t u g o5 s6 (some (.str "more",.own)))=some true:=bA (aQ rfl rfl (by kernel_rfl))
def ae8{u:Str}(hu:u="no"\/u="unsure"):cH (rH w h t u g o5 s6 (some (.str u,.own)))=some false:=bA (aQ rfl rfl (by rcases hu with rfl|rfl<;>kernel_rfl))
def Qi{L:List Int}{u:Str}(e:oX (gD g) [tD L,.str u]=some (.str r,gD g')):bH (rH w h t u g o5 (some (tD L,.own)) (some (.str m,.own)))=some (.nx (rH w h t u g' o5 (some (tD L,.own)) (some (.str r,.own)))):=by
 show(match xO 4 "Gate" "answer" oX (ao (aj 6) (ao (aj 3) aA)) _ with|some (d,Y')=>some (Out.nx (jt Y' 7 d .own))|none=>none)=_;rw[xA (ps:=[(tD L,.sh [6]),(.str u,.sh [])]) rfl rfl rfl e];ext o5<;>rfl
def Sw{u:Str}{w j:Nat}{N:Nat}(v:Hv w t j g)(hw:1<=w)(hj:(j:Int)<t)(ht:t<=20)(hu:u="no"\/u="unsure")(he:word 1 t (us j++[u])=u):∃g',gW cH bH (N+2) (rH w h t u g o5 (some (tD (aJ 1 w),.own)) (some (.str "more",.own)))=some (.nx (rH w h t u g' o5 (some (tD (aJ 1 w),.own)) (some (.str u,.own))))/\Fi w u g':=by
 let#[g',e,f]:=v.last hw hj ht hu he;refine#[g',?_,f];rw[show N+2=(N+1)+1 from rfl,J7 Lw (Qi e),TN (ae8 hu)]
theorem S6{w:Nat}(hw:1<=w)(ht:t<=20):∀{m N j:Nat} {g},(j:Int)+1+m=t->m<N->Hv w t j g->∃g',gW cH bH (N+1) (rH w h t "unsure" g o5 (some (tD (aJ 1 w),.own)) (some (.str "more",.own)))=some (.nx (rH w h t "unsure" g' o5 (some (tD (aJ 1 w),.own)) (some (.str "unsure",.own))))/\Fi w "unsure" g'
 |0,N+1,j,g,hj,_,v=>Sw v hw (by lia) ht (.inr rfl) (Yx (by lia))
 |m+1,N+1,j,g,hj,hN,v=>by
  let#[g1,e,v1]:=v.more hw (by lia) ht;let#[g2,d7,f]:=S6 hw ht (m:=m) (N:=N) (by lia) (by lia) v1;apply#[g2,(J7 Lw (Qi e)).trans d7,f]
def aaP{u:Str}{w:Nat}(hw:1<=w)(h1:1<=t)(ht:t<=20)(hu:u="no"\/u="unsure")(v:Hv w t 0 g):∃g',gW cH bH 4000 (rH w h t u g o5 (some (tD (aJ 1 w),.own)) (some (.str "more",.own)))=some (.nx (rH w h t u g' o5 (some (tD (aJ 1 w),.own)) (some (.str u,.own))))/\Fi w u g':=by
 rcases hu with rfl|rfl
 .exact Sw (N:=3998) v hw (by show(0:Int)<t;lia) ht (.inl rfl) ZJ
 .exact S6 (N:=3999) (m:=(t-1).toNat) hw ht (by show(0:Int)+1+_=_;lia) (by lia) v
def agp(n m:Nat)(h:m<=n):(aJ 1 n).take m=aJ 1 m:=by
 unfold aJ;rw[<- aiT,List.take_range,Nat.min_eq_left h]
def ah0(ln:g.ln=[])(ld:g.ld=[])(gr:g.gr=[]):wl g=aJ 1 g.C.length:=aiw.mpr λx _=>by
 unfold gx fX;rw[ln,ld,gr];rfl
def ZX{w:Nat}{u:Str}(hw:1<=w/\w<=16)(hh:1<=h/\h<=8)(ht:1<=t/\t<=20)(hu:u="no"\/u="unsure"):adC [.int w,.int h,.int t,.str u]=some (.bl true):=by
 have hW:1<=(w:Int)/\(w:Int)<=16:=by lia
 have p0:Pg (g0 w h 1 t):=yU hW hh #[by decide,ht.1,ht.2];let#[g1,o1,ja,p1,c1,s1]:=A2 (S:=λg o=>rH w h t u g o none none) (f:=sZ (xO 4 "Gate" "ask" jC (ao (eC (.int 5)) (ao (eZ aA) (ao (eZ aA) aA))))) (r:=5) (j:=5) (λ_ _ _=>rfl) (λg g' v k e=>jK (xA (ps:=[(.int 5,.own),(iL [],.own),(eL [],.own)]) rfl rfl rfl e)) (by decide) (ks:=aJ 0 (w+1)) (o:=none) p0 (by rw[c_];show 0+(w+1)<=60;lia);have C1:g1.C=List.replicate (w+1) (plain 5):=by rw[c1,c_];rfl
 have l1:g1.C.length=w+1:=by rw[C1,adY]
 have w1:g1.w=w:=s1.w;have yb:wl (cY g1)=aJ 1 (w+1):=by rw[ah0 (g:=cY g1) p1.ln rfl p1.gr];show aJ 1 g1.C.length=_;rw[l1]
 have tk:(wl (cY g1)).take g1.w.toNat=aJ 1 w:=by rw[yb,w1,aim,agp _ _ (by lia)]
 let#[es,eg,k2,lk]:=Ph (r:=5) p1.gd p1.ta (uv (g:=cY g1) p1.gr) λx m=>by
  rw[yb] at m;have:=dX.mp m;rw[C1];apply Aa (by lia) (by lia)
 have lk:=lk (by rw[tk];apply Di w hw.1);rw[tk,p1.ln] at lk;have ne:f7 g1=cI (cK (gg g1) (aJ 1 w)):=by unfold f7;rw[tk]
 have v:Hv w t 0 (f7 g1):=#[k2,C1,p1.ln,by rw[ne];rfl,p1.gr,rfl,w1,s1.n,s1.t,lk,p1.ta,s1.en,s1.gw]
 have ZO:∀s6 s7,Cg (ao (eC (.int 1)) (ao (e2 f9 (aj 0) (eC (.int 1))) aA)) (rH w h t u (f7 g1) o1 s6 s7)=some (tD (aJ 1 w),.own):=λs6 s7=>by
  unfold Cg;rw[aM,aM,aQ (d1:=.int w) (d2:=.int 1) (d:=.int ((w:Int)+1)) rfl rfl rfl];show(if _ then _ else none)=_;rw[if_pos (by lia),show((w:Int)+1-1).toNat=w by lia];unfold tD aJ;rw[adK];rfl
 let#[g2,d7,f1,f2]:=aaP (h:=h) (o5:=o1) hw.1 ht.1 ht.2 hu v;refine bq rfl (b7 (Ba rfl rfl hW hh #[by decide,ht.1,ht.2]) (sq (lM (pI (n:=w+1) (t:=.own) (aQ rfl rfl rfl) (by lia)) ja) (sq (Y':=rH w h t u (cI (cY g1)) o1 none none) ((jK (xA (ps:=[]) rfl rfl rfl es)).trans (by ext o1<;>rfl)) (sq (Y':=rH w h t u (f7 g1) o1 none none) ((jK (xA (ps:=[]) rfl rfl rfl eg)).trans (by ext o1<;>rfl)) (b7 (ZO none none) (b7 (d:=.str "more") (t:=.own) rfl (sq d7 (bZ (bA (aQ rfl rfl (by rcases hu with rfl|rfl<;>kernel_rfl))) ?_))))))));have tw:tV (e2 oEq (aj 0) (eC (.int 1))) (rH w h t u g2 o1 (some (tD (aJ 1 w),.own)) (some (.str u,.own)))=some ((w:Int)==1):=rfl;have su:PyData.strOk u=true:=by rcases hu with rfl|rfl<;>decide +kernel
 by_cases h1:w=1
 .let#[a,b]:=f1 h1;refine mh (tw.trans (by rw[h1];rfl)) (cu (mU (b:=true) (c:=true) (say rfl rfl a rfl (iX "out" (C_ (k:=1) (λd m=>?_) (by show 4<=100;decide)))) (say rfl rfl b rfl (iX "laid" (kX 0)))));rcases aaO.mp m with rfl|m
  .exact(C9 "look").up (by decide)
  .rcases aaO.mp m with rfl|m
   .exact C_ (λd m=>nomatch m) (by show 0<=100;decide)
   .rcases aaO.mp m with rfl|m
    .exact S5 (kX 1)
    .rw[aav.mp m];apply(C9 u su).up (by decide)
 .let#[a,b]:=f2 h1;apply bZ (tw.trans (by rw[show((w:Int)==1)=false from ad3.mpr (by lia)])) (cu (mU (b:=true) (c:=true) (say rfl (aQ rfl rfl rfl) a rfl (iX "halving" (kX w))) (say rfl rfl b rfl (iX "laid" (kX 0)))))
def mK(g:G):G:=yh (jO g g.ld "yes") g.ld
def S4:word 1 t (([]:List Str)++[("yes":Str)])="yes":=by
 unfold word;rw[if_pos (by decide +kernel)]
def T_(k:Gd g)(ln:g.ln=[]):Gd (mK g):=by
 have e:g.ld++g.ld.drop (g.ld.length-g.ln.length)=g.ln++g.ld:=by rw[ln,List.nil_append,show g.ld.length-([]:List Int).length=g.ld.length from rfl,List.drop_length,acw]
 refine#[k.w1,k.h1,k.nt,k.gc,?_,?_,?_,?_,k.gr,?_]
 .show Row g.C (g.ld++g.ld.drop (g.ld.length-g.ln.length));rw[e];apply k.row
 .show(g.ld++g.ld.drop (g.ld.length-g.ln.length)).Nodup;rw[e];apply k.nd
 .show(((g.ld.drop (g.ld.length-g.ln.length)).length:Nat):Int)<=g.w;have:=k.xr;rw[List.length_drop]
  lia
 .show ∀x∈g.ld++g.ld.drop (g.ld.length-g.ln.length),fX g x=false;rw[e];apply k.ue
 .show ∃v,fu [] (eV g.C (g.ld++g.ld.drop (g.ld.length-g.ln.length)))=some v;rw[e];apply k.run
def Tr(ln:g.ln=[]):(mK g).ld=[]:=by
 show g.ld.drop (g.ld.length-g.ln.length)=[];rw[ln,show g.ld.length-([]:List Int).length=g.ld.length from rfl,List.drop_length]
def MH(k:Gd g)(ta:g.ta=[])(n1:g.n=1)(ln:g.ln=[])(hl:g.ld∈g.lk)(hn:g.ld≠[])(en:g.en=[])(gw:g.gw=[])(hs:oH (gD (mK g)) []=some (.aC,gD g3)):oX (gD g) [tD g.ld,.str "yes"]=some (.str "yes",gD g3):=by
 have e0:hd g.ta g.ld=[]:=by rw[ta];rfl
 have:=NP (L:=g.ld) (w:="yes") (g:=g) (g3:=g3) hl hn k (by rw[ta];apply .nil) (by rw[ta];apply ade _) (by simp) (by rw[e0,n1];apply Dj (j:=0) (by have:=k.nt;show(0:Int) < _;lia)) (by rw[en];rfl) (by rw[en];apply ade _) (by rw[gw];apply ade _) (by rw[ln];apply ade _) (by lia) (by
  unfold xX;rw[e0,n1,S4];apply hs)
 rwa [e0,n1,S4] at this
def vK(h:g.ld=[]):dM g=none:=wH.mpr λp h1 h2=>by rw[h] at h2;apply absurd h2 (by show ¬p<=0;lia)
section
variable(s v:Int)
abbrev cA:Ch:=(3,[],[(s,0,v)])
abbrev cB:Ch:=(9,[],[(s,v+1,0)])
abbrev cC:Ch:=(1,[2],[])
abbrev C3:List Ch:=[cA s v,cB s v,cC]
end
def Ep{s v:Int}:bad [(s,v)] [(s,v+1,0)]=[s]:=by
 unfold bad oz bR;have:(v==v+1)=false:=ad3.mpr (by lia);simp[this]
def Lg(hC:cG C x=[(s,v+1,0)]):fU C [(s,v)] x=false:=by
 unfold fU;rw[hC,Ep];rfl
def Su{n:Nat}{r a b s:Int}(hr:0<=r/\r<=9)(hs:0<=s/\s<=999)(ha:0<=a/\a<=1000000000)(hb:0<=b/\b<=1000000000)(ne:a≠b):Gc n (r,[],[(s,a,b)]):=by
 refine#[abD _,(λ_ m=>nomatch m),ade _,?_];unfold nH xm tM inR;dsimp only;rw[aaC hr.1,aaC hr.2];simp[hs.1,hs.2,ha.1,ha.2,hb.1,hb.2,ne];apply#[rfl,rfl]
structure Uf(w h t s v:Int)(g:G):Prop where
 gd:Gd g
 C:g.C=C3 s v
 ln:g.ln=[]
 ld:g.ld=[1]
 gr:g.gr=[]
 ht:g.ht=false
 ta:g.ta=[]
 nn:g.n=1
 lk:[1]∈g.lk
 en:g.en=[]
 gw:g.gw=[]
def agO(hw:0<=w/\w<=15)(hh:1<=h/\h<=8)(ht:1<=t/\t<=20)(hs:0<=s/\s<=999)(hv:1<=v/\v<1000000000):∃g1 g2 g3,jC (gD (g0 (w+1) h 1 t)) [.int 3,iL [],eL [(s,0,v)]]=some (.int 1,gD g1)/\jC (gD g1) [.int 9,iL [],eL [(s,v+1,0)]]=some (.int 2,gD g2)/\jC (gD g2) [.int 1,iL [2],eL []]=some (.int 3,gD g3)/\Uf w h t s v g3:=by
 have p0:Pg (g0 (w+1) h 1 t):=yU (by lia) hh #[by decide,ht.1,ht.2];have q1:Gc 0 (cA s v):=Su (by decide) hs (by decide) (by lia) (by lia);have q2:Gc 1 (cB s v):=Su (by decide) hs (by lia) (by decide) (by lia);have q3:Gc 2 cC:=#[ade _,(λx m=>by rw[aav.mp m];decide),by decide,by decide +kernel]
 let#[e1,F1,a1]:=xg (c:=cA s v) p0.one p0.gd rfl rfl rfl q1 (show 0<60 by decide);have x1:e1=[1]:=by
  have sub:∀x∈e1,x=1:=λx m=>aav.mp (F1.sub x m)
  have m1:(1:Int)∈e1:=by
   refine ahm λhn=>?_
   have z:e1=[]:=agm.mpr λx m=>hn (sub x m ▸ m)
   subst z;let#[u,r1,r2]:=F1.run;ext r1;rcases r2 with r2|r2
   .have:w+1<=0:=r2
    lia
   .exact absurd (r2 1 (aav.mpr rfl) acL rfl) (by show ¬(true:Bool)=false;decide)
  match e1,F1.nd,sub,m1 with
  |[x],_,sub,_=>rw[sub x aah]
  |x::y::r,nd,sub,_=>apply absurd (by rw[sub x aah,sub y (aab _ aah)];apply aah) (ab6.mp nd).1
 subst x1;let#[b1,k1]:=a1 (by simp);have o1:One ([]++[cA s v]):=One.app (λc m=>nomatch m) (abD _);generalize mz:cI (cK (fJ (g0 (w+1) h 1 t) (cA s v)) [1])=g1 at b1;have YS:Gd g1:=mz ▸ i8 k1;have C1:g1.C=[cA s v]:=mz ▸ rfl;have g7:g1.ln=[]:=mz ▸ rfl;have fH:g1.ld=[1]:=mz ▸ rfl;have j7:g1.gr=[]:=mz ▸ rfl;have kK:g1.ht=false:=mz ▸ rfl;have kD:g1.ta=[]:=mz ▸ rfl;have w1:wl g1=[]:=mz ▸ rfl;have n1:g1.n=1:=mz ▸ rfl;have BK:g1.en=[]:=mz ▸ rfl;have Gj:g1.gw=[]:=mz ▸ rfl;let#[d7,F2,a2]:=xg (c:=cB s v) (by rw[C1];apply o1) YS kD j7 kK (by rw[C1];apply q2) (by rw[C1];apply(show 1<60 by decide));rw[w1,C1,g7,fH] at F2;have x2:d7=[]:=by
  cases d7 with
  |nil=>rfl
  |cons x r=>
   have hx:x=2:=aav.mp (F2.sub x aah);subst hx;let#[u,r1,_,r3]:=F2.fst 2 r rfl;cases(show some [(s,v)]=some u from r1);rw[Lg (s:=s) (v:=v) rfl] at r3;ext r3
 subst x2;let#[b2,k2]:=a2 (by rw[fH];simp);rw[C1] at b2;generalize m5:cI (cK (fJ g1 (cB s v)) [])=g2 at b2;have YJ:Gd g2:=m5 ▸ i8 k2;have C2:g2.C=[cA s v,cB s v]:=m5 ▸ (by show g1.C++_=_;rw[C1];rfl);have ln2:g2.ln=[]:=m5 ▸ g7;have tP:g2.ld=[1]:=m5 ▸ (by show g1.ld++[]=_;rw[fH];rfl);have rC:g2.gr=[]:=m5 ▸ j7;have Lv:g2.ht=false:=m5 ▸ kK;have Eg:g2.ta=[]:=m5 ▸ kD;have n2:g2.n=1:=m5 ▸ n1;have YK:g2.en=[]:=m5 ▸ BK;have Wr:g2.gw=[]:=m5 ▸ Gj;have w2:wl g2=[2]:=by unfold wl gx fX;rw[C2,ln2,tP,rC];rfl
 let#[e3,F3,a3]:=xg (c:=cC) (by rw[C2];apply o1.app (abD _)) YJ Eg rC Lv (by rw[C2];apply q3) (by rw[C2];apply(show 2<60 by decide));rw[w2,C2,ln2,tP] at F3;have x3:e3=[]:=by
  cases e3 with
  |nil=>rfl
  |cons x r=>
   let#[u,r1,r2,r3]:=F3.fst x r rfl;cases(show some [(s,v)]=some u from r1);rcases aaO.mp (F3.sub x aah) with hx|hx
   .subst hx;rw[Lg (s:=s) (v:=v) rfl] at r3;ext r3
   .cases aav.mp hx;cases(show false=true from r2)
 subst x3;let#[b3,k3]:=a3 (by rw[tP];simp);rw[C2] at b3;refine#[g1,g2,_,b1,b2,b3,i8 k3,by show g2.C++_=_;rw[C2];rfl,ln2,by show g2.ld++[]=_;rw[tP];rfl,rC,Lv,Eg,n2,?_,YK,Wr];have l3:(cK (fJ g2 cC) []).ld=[1]:=by show g2.ld++[]=_;rw[tP];rfl
 have:=EO k3 (nE Eg) (by rw[l3];simp) (by
  unfold jc;rw[l3,show aJ 1 ([1]:List Int).length=[1] from rfl,ag3]
  split
  .exact .inr (aah)
  .exact .inl rfl)
 rw[l3,show(cK (fJ g2 cC) []).ln=[] from ln2] at this;apply this
def dU(s:Int):D:=.tup [.str "unfit",.int s]
def EZ:D:=.tup [.str "leans",.int 2]
def qK(s:Int):List (Key×D):=[(Sum.inl 2,dU s),(Sum.inl 3,EZ)]
structure Us(s v:Int)(g:G):Prop where
 gd:Gd g
 C:g.C=C3 s v
 ln:g.ln=[1]
 ld:g.ld=[]
 ht:g.ht=false
def Nh(k:Gd g)(ln:g.ln=[1])(ld:g.ld=[])(gr:List (Key×D))(hg:Gr g.C.length gr)(h1:bB gr 1=false):Gd { g with gr:=gr }:=by
 have:=k.cut (ld:=g.ld) (gr:=gr) (List.prefix_refl _) hg λx m=>by
  rw[ln,ld] at m;rw[aav.mp m];apply h1
 apply this
def Us.settle(p:Us s v g)(gr:g.gr=[]):∃g',oH (gD g) []=some (.aC,gD g')/\Gd g'/\g'.C=C3 s v/\g'.ln=[1]/\g'.gr=qK s:=by
 have hw:=p.gd.w1;have l3:g.C.length=3:=by rw[p.C];rfl
 have w1:wl g=[2,3]:=by unfold wl gx fX;rw[p.C,p.ln,p.ld,gr];rfl
 let#[e1,F1,k1,h1]:=zC p.gd (vK p.ld);rw[w1,p.C,p.ln,p.ld] at F1;have x1:e1=[]:=by
  cases e1 with
  |nil=>rfl
  |cons x r=>
   let#[u,r1,r2,r3]:=F1.fst x r rfl;cases(show some [(s,v)]=some u from r1);rcases aaO.mp (F1.sub x aah) with hx|hx
   .subst hx;rw[Lg (s:=s) (v:=v) rfl] at r3;ext r3
   .cases aav.mp hx;cases(show false=true from r2)
 subst x1;let#[u,v1,r1,hu,q1]:=(h1 (by rw[vK (by show g.ld++[]=_;rw[p.ld];rfl)];apply λz=>nomatch z)).2 (by rw[p.ld];rfl);have f1:aY g=[2]:=by unfold aY;rw[w1,p.C,p.ln];rfl
 rw[p.C,p.ln] at r1;cases(show some [(s,v)]=some v1 from r1);have g1:(aY g).foldl (ow g.C u) g.gr=[(Sum.inl 2,dU s)]:=by
  rw[f1,gr,p.C,aeO,List.foldl_nil];unfold ow;rw[hu,show cG (C3 s v) 2=[(s,v+1,0)] from rfl,Ep];rfl
 rw[g1,f1] at q1;have m2:(2:Int)∈aJ 1 g.C.length:=dX.mpr (by rw[l3];decide);have m3:(3:Int)∈aJ 1 g.C.length:=dX.mpr (by rw[l3];decide);have G1:Gr g.C.length [(Sum.inl 2,dU s)]:=by
  have:=Gr.put (gr:=[]) (gr ▸ p.gd.gr) m2 (d:=dU s) rfl;apply this
 have k2:=Nh p.gd p.ln p.ld _ G1 rfl;have G2:Gr g.C.length (qK s):=by
  have:=Gr.put G1 m3 (d:=EZ) rfl;apply this
 have k3:=Nh p.gd p.ln p.ld _ G2 rfl;have w2:wl { g with gr:=[(Sum.inl 2,dU s)] }=[3]:=by unfold wl gx fX;dsimp only;rw[p.C,p.ln,p.ld];rfl
 have pe:gY { g with gr:=[(Sum.inl 2,dU s)] }={ g with gr:=qK s }:=by
  unfold gY;rw[w2];dsimp only;rw[p.C];rfl
 have w3:wl { g with gr:=qK s }=[]:=by unfold wl gx fX;dsimp only;rw[p.C,p.ln,p.ld];rfl
 let#[d7,F2,k4,h2]:=zC k3 (vK p.ld);rw[w3] at F2;have x2:d7=[]:=agm.mpr λx m=>nomatch F2.sub x m
 subst x2;let#[u2,v2,_,_,q2]:=(h2 (by rw[vK (by show g.ld++[]=_;rw[p.ld];rfl)];apply λz=>nomatch z)).2 (by show g.ld++[]=_;rw[p.ld];rfl);have f2:aY { g with gr:=qK s }=[]:=by unfold aY;rw[w3];rfl
 rw[f2] at q2;refine#[cI { g with gr:=qK s },mX p.gd (n:=1) ?_ (by decide) k3,i8 k3,p.C,p.ln,rfl];rw[nI (uv gr)];apply .yes p.ht q1 k2 (by rw[pe];apply .no p.ht q2)
def rN(w h t s v:Int)(g:G):aU:=[some (.int w,.sh []),some (.int h,.sh []),some (.int t,.sh []),some (.int s,.sh []),some (.int v,.sh []),some (gD g,.own)]
def OA(h1:ta Y=some false)(h2:tb Y=some false):nY ta tb Y=some false:=(Pp h1).trans h2
def adg(hw:0<=w/\w<=15)(hh:1<=h/\h<=8)(ht:1<=t/\t<=20)(hs:0<=s/\s<=999)(hv:1<=v/\v<1000000000):Z9 [.int w,.int h,.int t,.int s,.int v]=some (.bl true):=by
 let#[g1,g2,g3,b1,b2,b3,p]:=agO (h:=h) (t:=t) hw hh ht hs hv;have l3:g3.C.length=3:=by rw[p.C];rfl
 have qz:1<=(2:Int)/\(2:Int)<=(g3.C.length:Int):=by rw[l3];decide
 have OU:1<=(3:Int)/\(3:Int)<=(g3.C.length:Int):=by rw[l3];decide
 have m2:gO g3 2=[]:=by unfold gO;rw[p.C,p.ln,p.ld];rfl
 have m3:gO g3 3=[2]:=by unfold gO;rw[p.C,p.ln,p.ld];rfl
 have qB:∀x,fX g3 x=false:=λx=>by show bB g3.gr x=false;rw[p.gr];rfl
 have y2:=vI p.gd qz (by rw[p.ln];apply acL) (qB 2) (by rw[p.ld];decide) (aeH p.gd p.ht qz m2 (nE p.ta) (v:=[(s,v)]) (by rw[p.C,p.ln,p.ld];rfl) (by rw[p.C];apply Ep)) rfl;have y3:=vI p.gd OU (by rw[p.ln];apply acL) (qB 3) (by rw[p.ld];decide) (LW p.gd p.ht OU (by rw[m3];simp)) (by rw[m3];rfl);rw[m3] at y3;let#[g4,es,k4,C4,AA,FF]:=Us.settle (s:=s) (v:=v) (g:=mK g3) #[T_ p.gd p.ln,p.C,p.ld,Tr p.ln,p.ht] p.gr;have ea:=MH p.gd p.ta p.nn p.ln (by rw[p.ld];apply p.lk) (by rw[p.ld];simp) p.en p.gw es;rw[p.ld] at ea;have l4:g4.C.length=3:=by rw[C4];rfl
 have in4:∀x,x=2\/x=3->fX g4 x=true:=λx h=>by show bB g4.gr x=true;rw[FF];rcases h with rfl|rfl<;>rfl
 have z1:=MY k4 (x:=1) (by rw[l4];decide) (by rw[AA];decide);rw[AA,show ix [1] 1=0 from rfl] at z1;have z2:=yY k4 (x:=2) (by rw[l4];decide) (by rw[AA];decide) (in4 2 (.inl rfl));have z3:=yY k4 (x:=3) (by rw[l4];decide) (by rw[AA];decide) (in4 3 (.inr rfl));rw[FF,show gk (qK s) 2=dU s from rfl] at z2;rw[FF,show gk (qK s) 3=EZ from rfl] at z3;have hW:1<=w+1/\w+1<=16:=by lia
 have qa:ao (eC (.int 9)) (ao (eZ aA) (ao (eZ (ao (ia (ao (aj 3) (ao (e2 f9 (aj 4) (eC (.int 1))) (ao (eC (.int 0)) aA)))) aA)) aA)) (rN w h t s v g1)=some [(.int 9,.own),(iL [],.own),(eL [(s,v+1,0)],.sh [])]:=by
  have q:ao (ia (ao (aj 3) (ao (e2 f9 (aj 4) (eC (.int 1))) (ao (eC (.int 0)) aA)))) aA (rN w h t s v g1)=some [(dT (s,v+1,0),.sh [])]:=by
   rw[aM,m6,aM,aM,aQ (d:=.int (v+1)) rfl rfl rfl];rfl
  have q2:eZ (ao (ia (ao (aj 3) (ao (e2 f9 (aj 4) (eC (.int 1))) (ao (eC (.int 0)) aA)))) aA) (rN w h t s v g1)=some (eL [(s,v+1,0)],.sh []):=by
   unfold eZ;rw[q];rfl
  rw[aM,aM,aM,q2];rfl
 refine bq rfl (b7 (Ba (w:=w+1) (ps:=[(.int (w+1),.own),(.int h,.sh []),(.int 1,.own),(.int t,.sh [])]) rfl rfl hW hh #[by decide,ht.1,ht.2]) (sq (Y':=rN w h t s v g1) (jK (xA (ps:=[(.int 3,.own),(iL [],.own),(eL [(s,0,v)],.sh [])]) rfl rfl rfl b1)) (sq (Y':=rN w h t s v g2) (jK (xA (ps:=[(.int 9,.own),(iL [],.own),(eL [(s,v+1,0)],.sh [])]) rfl qa rfl b2)) (sq (Y':=rN w h t s v g3) (jK (xA (ps:=[(.int 1,.own),(iL [2],.own),(eL [],.own)]) rfl rfl rfl b3)) (bZ (OA (kN (b:=true) (bA (say (t:=.sh [5]) rfl rfl y2 rfl (iX "unfit" (kX s))))) (kN (b:=true) (bA (say (t:=.sh [5]) rfl rfl y3 rfl (iX "leans" (N4 (JJ [2]) (by decide))))))) (sq (Y':=rN w h t s v g4) ?_ (bZ (OA (kN (b:=true) (bA (say (t:=.sh [5]) rfl rfl z1 rfl (iX "in" (kX 0))))) (kN (b:=true) (bA (say (t:=.sh [5]) rfl rfl z2 rfl (iX "out" (iX "unfit" (kX s))))))) (cu (say (t:=.sh [5]) rfl rfl z3 rfl (iX "out" (iX "leans" (kX 2))))))))))));unfold yW CU;rw[xA (ps:=[(tD [1],.own),(.str "yes",.own)]) rfl rfl rfl ea];rfl
def Yl(k:Gd g):Gd (gY g):=by
 let#[a,_,c]:=Tg (C:=g.C) (l:=wl g) k.gr λx m=>dX.mpr (by have:=gq x m;lia)
 refine k.cut (ld:=g.ld) (List.prefix_refl _) a λx m=>?_
 cases e:bB ((wl g).foldl (gu g.C) g.gr) x with
 |false=>rfl
 |true=>
  rcases c x e with q|q
  .rw[show bB g.gr x=false from k.ue x m] at q;ext q
  .let#[_,n1,n2,_]:=mZ.mp q;apply absurd m (by rw[abC];apply λz=>z.elim n1 n2)
def WB(k:Gd g)(hx:1<=x/\x<=(g.C.length:Int))(nl:x∉g.ln):Gd (fQ g x):=by
 have hp:(if x∈g.ld then g.ld.takeWhile (λy=>!(y==x)) else g.ld) <+: g.ld:=by
  split
  .exact zy
  .exact List.prefix_refl _
 refine(k.cut hp (k.gr.put (dX.mpr (by lia)) (d:=.tup [.str "withdrawn"]) rfl) λy m=>?_).re g.ta g.lk g.ht g.gw g.en g.an _;rw[tY];have ne:y≠x:=λe=>by
  subst e;rcases abC.mp m with m|m
  .exact nl m
  .split at m
   .exact Mg m
   .rename_i h;apply h m
 rw[aa8 ne,Bool.false_or];refine k.ue y ((abC.mp m).elim (λm=>aa4 _ m) λm=>aaS _ ?_);apply hp.subset m
theorem MC:∀{l:List Int} {gr},(∀x∈l,lean (sec C) x=[])->l.foldl (gu C) gr=gr
 |[],gr,_=>rfl
 |x::l,gr,h=>by
  rw[aeO,show gu C gr x=gr by unfold gu gone;rw[h x aah];rfl];apply MC λy m=>h y (aab _ m)
abbrev gC(m:Nat)(a:Int):List Ch:=List.replicate m (plain 0)++[(0,[a],[])]
def left(m:Nat)(a:Int):List Int:=(aJ 1 m).filter λx=>!(x==a)
def sM:(gC m a).length=m+1:=by unfold gC;rw[aa3,adY];rfl
def Ig{m:Nat}(h1:1<=x)(h2:x<=(m:Int)):ch (gC m a) x=plain 0:=by
 unfold gC;rw[AW h1 (by rw[adY];apply h2),Aa h1 h2]
def aec{m:Nat}:ch (gC m a) (m+1)=(0,[a],[]):=by
 have:=zK (C:=List.replicate m (plain 0)) (c:=(0,[a],[]))
 rwa [adY] at this
def NI:(left m a).length<=m:=by
 have:=ad9 (λx=>!(x==a)) (aJ 1 m)
 rwa [c_] at this
def K2{m:Nat}:x∈left m a↔(1<=x/\x<=(m:Int))/\x≠a:=by
 unfold left;rw[adh,dX];constructor
 .rintro⟨h1,h2⟩
  apply#[by lia,by simpa using h2]
 .rintro⟨h1,h2⟩
  apply#[by lia,by simpa using h2]
def aeq:(left m a).Pairwise (· < ·):=(vM 1 m).sublist afr
structure Go(m:Nat)(a:Int)(g:G):Prop where
 gd:Gd g
 C:g.C=gC m a
 ln:g.ln=[]
 ht:g.ht=false
 ta:g.ta=[]
 ww:g.w=m
 nn:g.n=1
 en:g.en=[]
 gw:g.gw=[]
 g1:gk g.gr a=.tup [.str "withdrawn"]
 g2:gk g.gr (m+1)=.tup [.str "leans",.int a]
 ins:∀x,bB g.gr x=(decide (x=m+1)||decide (x=a))
def ahO(p:Pg g)(hC:g.C=List.replicate m (plain 0))(hw:g.w=m)(hm:1<=m/\m<=8)(ha:1<=a/\a<=(m:Int))(n1:g.n=1)(en:g.en=[])(gw:g.gw=[]):
  ∃g1 g2,jC (gD g) [.int 0,iL [a],eL []]=some (.int (m+1),gD g1)/\Qv (gD g1) [.int a]=some (.aC,gD g2)/\Go m a g2:=by
 have l0:g.C.length=m:=by rw[hC,adY]
 have hc:Gc g.C.length (0,[a],[]):=by
  refine#[ade _,λx mx=>by rw[aav.mp mx,l0];apply ha,by show 1<=60;decide,?_];unfold nH inR;rw[l0];simp[ha.1,ha.2];apply#[rfl,rfl]
 let#[ja,k1]:=KU (c:=(0,[a],[])) p.one p.gd p.ta p.gr p.ht hc (by lia) (by rw[p.ld,c_,l0,hw];lia);rw[l0] at ja;generalize eg:cI (fJ g (0,[a],[]))=g1 at ja;have kk:Gd g1:=eg ▸ i8 k1;have C1:g1.C=gC m a:=eg ▸ (by show g.C++_=_;rw[hC]);have l1:g1.C.length=m+1:=by rw[C1,sM]
 have g7:g1.ln=[]:=eg ▸ p.ln;have j7:g1.gr=[]:=eg ▸ p.gr;have kK:g1.ht=false:=eg ▸ p.ht;have kD:g1.ta=[]:=eg ▸ p.ta;have fH:g1.ld=aJ 1 m:=eg ▸ (by show g.ld=_;rw[p.ld,l0,hw];congr 1;lia);have ma:a∈g1.ld:=by rw[fH];apply dX.mpr (by lia)
 have hx:1<=a/\a<=(g1.C.length:Int):=by rw[l1];lia
 have nl:a∉g1.ln:=by rw[g7];apply acL
 have k2:=WB kk hx nl;have rC:(fQ g1 a).gr=[(Sum.inl a,.tup [.str "withdrawn"])]:=by show putD g1.gr _ _=_;rw[j7];rfl
 have Gb:∀x,bB (fQ g1 a).gr x=decide (x=a):=λx=>by
  show bB (putD g1.gr (Sum.inl a) _) x=_;rw[tY,j7];apply Bool.or_false _
 have tP:∀x∈(fQ g1 a).ld,x<=(m:Int):=λx mx=>by
  have mx:x∈(if a∈g1.ld then g1.ld.takeWhile (λy=>!(y==a)) else g1.ld):=mx;rw[if_pos ma] at mx;have:=zy.subset mx;rw[fH] at this;have:=dX.mp this
  lia
 have U7:∃A,wl (fQ g1 a)=A++[(m:Int)+1]/\∀x∈A,1<=x/\x<=(m:Int):=by
  refine#[(aJ 1 m).filter (gx (fQ g1 a)),?_,λx mx=>by have:=dX.mp (adh.mp mx).1;lia];show(aJ 1 g1.C.length).filter _=_;rw[l1,Dm,List.filter_append]
  congr 1
  refine ag1 ?_;unfold gx fX;rw[Gb,aa8 (show ¬(m:Int)+1=a by lia),show(fQ g1 a).ln=[] from g7,aa8 (show ¬(m:Int)+1∈(fQ g1 a).ld from λz=>by have:=tP _ z;lia)];rfl
 let#[A,eA,hA]:=U7;have C2:(fQ g1 a).C=gC m a:=C1;have pg:(gY (fQ g1 a)).gr=putD [(Sum.inl a,.tup [.str "withdrawn"])] (Sum.inl ((m:Int)+1)) (.tup [.str "leans",.int a]):=by
  show(wl (fQ g1 a)).foldl (gu (fQ g1 a).C) (fQ g1 a).gr=_;rw[eA,List.foldl_append,C2,MC (l:=A) λx mx=>by rw[<- ko (hA x mx).1 (by rw[sM];have:=(hA x mx).2;lia),Ig (hA x mx).1 (hA x mx).2];rfl,aeO,List.foldl_nil,rC];have hg:gone (gC m a) [(Sum.inl a,.tup [.str "withdrawn"])] ((m:Int)+1)=[a]:=by
   unfold gone;rw[<- ko (by lia) (by rw[sM];lia),aec];refine ag1 ?_;rw[<- rC,Gb];apply aaC rfl
  unfold gu;rw[hg]
 have k3:=Yl k2;have qB:∀x,bB (gY (fQ g1 a)).gr x=(decide (x=m+1)||decide (x=a)):=λx=>by rw[pg,tY,<- rC,Gb]
 have XM:∀x∈wl (gY (fQ g1 a)),ch (gY (fQ g1 a)).C x=(0,[],[]):=λx mx=>by
  let#[h1,_,_,h4]:=mZ.mp mx;have h4:bB (gY (fQ g1 a)).gr x=false:=h4;rw[qB,Bool.or_eq_false_iff] at h4;have:=aiU h4.1;have h1:1<=x/\x<=(g1.C.length:Int):=h1;rw[l1] at h1;show ch g1.C x=_;rw[C1];apply Ig h1.1 (by lia)
 let#[ex,_,q,k4]:=G8 (g:=gY (fQ g1 a)) (r:=0) k3 (nE kD) kK XM;have q:=q (Qf (g:=cK (gY (fQ g1 a)) ex) kD);have na:(m:Int)+1≠a:=by lia
 refine#[g1,cI (cK (gY (fQ g1 a)) ex),ja,aet kk hx nl (by show bB g1.gr a=false;rw[j7];rfl) (mX k2 q (by decide) k4),#[i8 k4,C1,g7,kK,kD,eg ▸ hw,eg ▸ n1,eg ▸ en,eg ▸ gw,?_,?_,qB]]
 .show gk (gY (fQ g1 a)).gr a=_;rw[pg];unfold gk;rw[O5 (λz=>na (aiV z).symm),<- rC];show(aZ (putD g1.gr (Sum.inl a) _) (Sum.inl a:Key)).getD .aC=_;rw[BD];rfl
 .show gk (gY (fQ g1 a)).gr _=_;rw[pg];unfold gk;rw[BD];rfl
def Go.wl_(p:Go m a g)(ha:a<=(m:Int)):wl (cY g)=left m a:=by
 have hw:∀x,gx (cY g) x=!(decide (x=m+1)||decide (x=a)):=λx=>by
  rw[<- p.ins];unfold gx fX;rw[show(cY g).ln=[] from p.ln];rfl
 show(aJ 1 g.C.length).filter _=_;rw[p.C,sM,Dm,List.filter_append,aiv (by rw[hw,aaC (rfl:(m:Int)+1=m+1)];apply aa2),List.filter_nil,acw];refine aiX λx mx=>?_
 have:=dX.mp mx;rw[hw,aa8 (show ¬x=(m:Int)+1 by lia),Bool.false_or];rfl
theorem SW:∀{l:List Int}{k:Nat} {x},l.Nodup->l[k]? = some x->ix l x=k
 |[],_,_,_,h=>by ext h
 |y::l,0,x,nd,h=>by
  ext h;unfold ix;rw[aiF (by simp)];rfl
 |y::l,k+1,x,nd,h=>by
  let#[n1,n2]:=ab6.mp nd;rw[List.getElem?_cons_succ] at h;have ih:=SW n2 h;have ne:y≠x:=λe=>n1 (e ▸ ag2 h)
  unfold ix at ih ⊢;rw[aiG (by simp[ne]),acF]
  lia
def rG(h t m a:Int)(g:G)(o5:Option Int)(s6:Slot):aU:=[some (.int h,.sh []),some (.int t,.sh []),some (.int m,.sh []),some (.int a,.sh []),some (gD g,.own),sO o5,s6]
abbrev W6:SF:=dN (iW (tV (bC nN (ao (bC fV (ao (aj 4) (ao (e2 fC (aj 6) (aj 5)) aA))) (ao (ia (ao (eC (.str "in")) (ao (aj 5) aA))) aA))))) (iB (eC (.bl false))) eO
def UC{l:List Int}{k:Nat}(hk:l[k]? = some q)(h1:f Y=some (iL l,t1))(h2:f2 Y=some (.int (k:Int),t2)):e2 fC f f2 Y=some (.int q,.own):=by
 refine aQ h1 h2 (uF (ds:=l.map D.int) ?_ rfl);have e:=IJ (f:=D.int) (L:=l) (m:=(k:Int)+1) (l:=q) (by lia) (by have:=(ac0.mp hk).1;lia) (by rw[show((k:Int)+1-1).toNat=k by lia];apply hk)
 rwa [show(k:Int)+1-1=k by lia] at e
theorem Oa{l:List Int}(hw:∀k q,l[k]? = some q->fV [gD g,.int q]=some (cR "in" (.int (k:Nat)))):∀{ks:List Nat} {o5},(∀k∈ks,k<l.length)->∃n8,dD (gN 5) (.sh []) W6 (ks.map λk:Nat=>D.int k) (rG h t m a g o5 (some (iL l,.own)))=some (.nx (rG h t m a g n8 (some (iL l,.own))))
 |[],o5,_=>#[o5,rfl]
 |k::ks,o5,hk=>by
  let#[o,e]:=Oa hw (ks:=ks) (o5:=some (k:Int)) λj mj=>hk j (aab _ mj)
  have kl:=hk k aah;have hq:l[k]? = some l[k]:=abm kl;apply#[o,(jx (bf:=rG h t m a g (some (k:Int)) (some (iL l,.own))) rfl (AG (kN (b:=true) (bA (say (t:=.sh [4]) rfl (UC hq rfl rfl) (hw k _ hq) rfl (iX "in" (kX k))))))).trans e]
theorem Go.yes(p:Go m a g)(hm:1<=m/\m<=8)(ha:1<=a/\a<=(m:Int)):Cu (gD g) []=some (.aC,gD (cI (cY g)))/\Gs (gD (cI (cY g))) []=some (.aC,gD (f7 g))/\(left m a≠[]->∃g',oX (gD (f7 g)) [tD (left m a),.str "yes"]=some (.str "yes",gD g')/\∀k q,(left m a)[k]? = some q->fV [gD g',.int q]=some (cR "in" (.int (k:Nat)))):=by
 have yb:=p.wl_ ha.2;have tk:(wl (cY g)).take g.w.toNat=left m a:=by
  rw[yb,p.ww,aim,aiC NI]
 have Tz:∀x∈wl (cY g),ch g.C x=(0,[],[]):=λx mx=>by
  rw[yb] at mx;have:=(K2.mp mx).1;rw[p.C];apply Ig this.1 this.2
 let#[es,eg,k5,lk]:=Ph (r:=0) p.gd p.ta (Oe (g:=cY g) λx mx=>#[0,Tz x mx]) Tz;refine#[es,eg,λhn=>?_];rw[tk,p.ln] at lk;have lk:=lk hn;have ne:f7 g=cI (cK (gg g) (left m a)):=by unfold f7;rw[tk]
 have Bc:(f7 g).ld=left m a:=by rw[ne];rfl
 have C5:(f7 g).C=gC m a:=p.C;have Iz:(f7 g).ln=[]:=p.ln;have ta5:(f7 g).ta=[]:=p.ta;have n5:(f7 g).n=1:=p.nn;have V4:(f7 g).en=[]:=p.en;have gw5:(f7 g).gw=[]:=p.gw;have UK:(f7 g).ht=false:=rfl;have in5:∀x,bB (f7 g).gr x=(decide (x=m+1)||decide (x=a)):=p.ins;clear ne eg es;generalize f7 g=g5 at *;have k6:=T_ k5 Iz;have l6:=Tr Iz;have EJ:(mK g5).ln=left m a:=Bc;have w6:wl (mK g5)=[]:=agm.mpr λx mx=>by
  let#[h1,h2,_,h4]:=mZ.mp mx;have h1:1<=x/\x<=(g5.C.length:Int):=h1;rw[C5,sM] at h1;have h4:bB g5.gr x=false:=h4;rw[in5,Bool.or_eq_false_iff] at h4;have e1:=aiU h4.1;have e2:=aiU h4.2;rw[EJ] at h2;apply h2 (K2.mpr #[by lia,e2])
 let#[ex,F,q,k7]:=G8 (g:=mK g5) (r:=0) k6 (vK l6) UK λx mx=>by rw[w6] at mx;ext mx
 rw[w6] at F;have hx:ex=[]:=agm.mpr λx mx=>nomatch F.sub x mx
 subst hx;have q:=q (by rw[vK (by show(mK g5).ld++[]=[];rw[l6];rfl)];apply λz=>nomatch z);have lx:Lf (mK g5):=λx mx=>by rw[w6] at mx;ext mx
 have hs:=mX k6 (by rw[nI lx];apply q) (by decide) k7;have ea:=MH k5 ta5 n5 Iz (by rw[Bc];apply lk) (by rw[Bc];apply hn) V4 gw5 hs;rw[Bc] at ea;refine#[_,ea,λk q hq=>?_];have mq:=ag2 hq;have z:=MY (i8 k7) (x:=q) (by show _/\_<=((g5.C.length:Nat):Int);rw[C5,sM];have:=(K2.mp mq).1;lia) (by show q∈(mK g5).ln;rw[EJ];apply mq);rw[show(cI (cK (mK g5) [])).ln=left m a from EJ,SW (aeq.imp λh=>by lia) hq] at z;apply z
def Ou{c:aU->Option (Bool×aU)}(h:c Y=some (false,Y')):yW c sf eO Y=some (.nx Y'):=by unfold yW;rw[h];rfl
def ad6(h1:ft Y=some true)(h2:fz Y=r):oG ft fz Y=r:=by unfold oG;rw[h1];apply h2
def XI(h1:ft Y=some false):oG ft fz Y=some (false,Y):=by unfold oG;rw[h1]
def aap{m:Nat}(hh:1<=h/\h<=8)(ht:1<=t/\t<=20)(hm:1<=m/\m<=8)(ha:1<=a/\a<=(m:Int)):XU [.int h,.int t,.int m,.int a]=some (.bl true):=by
 have hW:1<=(m:Int)/\(m:Int)<=16:=by lia
 have p0:Pg (g0 m h 1 t):=yU hW hh #[by decide,ht.1,ht.2];let#[g1,o1,ja,p1,c1,s1]:=A2 (S:=λg o=>rG h t m a g o none) (f:=sZ (xO 4 "Gate" "ask" jC (ao (eC (.int 0)) (ao (eZ aA) (ao (eZ aA) aA))))) (r:=0) (j:=5) (λ_ _ _=>rfl) (λg g' v k e=>jK (xA (ps:=[(.int 0,.own),(iL [],.own),(eL [],.own)]) rfl rfl rfl e)) (by decide) (ks:=aJ 0 m) (o:=none) p0 (by rw[c_];show 0+m<=60;lia);have C1:g1.C=List.replicate m (plain 0):=by rw[c1,c_];rfl
 let#[g2,g3,ea,ew,p3]:=ahO p1 C1 s1.w hm ha s1.n s1.en s1.gw;let#[es,eg,ey]:=p3.yes hm ha;have l3:g3.C.length=m+1:=by rw[p3.C,sM]
 have nl:∀x,x∉g3.ln:=λx=>by rw[p3.ln];apply acL
 have z1:=yY p3.gd (x:=a) (by rw[l3];lia) (nl _) (by show bB g3.gr a=true;rw[p3.ins,aaC (rfl:a=a)];apply Bool.or_true _);have z2:=yY p3.gd (x:=(m:Int)+1) (by rw[l3];lia) (nl _) (by show bB g3.gr _=true;rw[p3.ins,aaC (rfl:(m:Int)+1=m+1)];rfl);rw[p3.g1] at z1;rw[p3.g2] at z2;have fin:∀g':G,(∀k q,(left m a)[k]? = some q->fV [gD g',.int q]=some (cR "in" (.int (k:Nat))))->cz (jM (sS (e1 fW (aj 6))) (gN 5) W6) (iB (eC (.bl true))) (rG h t m a g' o1 (some (iL (left m a),.own)))=some (.rt (.bl true)):=λg' hw=>by
  let#[o,e]:=Oa (h:=h) (t:=t) (m:=m) (a:=a) hw (ks:=List.range (left m a).length) (o5:=o1) λk mk=>ahD.mp mk
  refine sq (lM (pI (n:=(left m a).length) (t:=.own) (cN rfl (by show fW (.lst ((left m a).map D.int))=_;rw[oZ,List.length_map])) (by have:=NI (m:=m) (a:=a);lia)) (by rw[AO];apply e)) rfl
 have cl:∀s6,eW [none,some 3] (pV (eC (.int 1)) (e2 f9 (aj 2) (eC (.int 1)))) (gN 0) (tV (e2 k9 (aj 0) (aj 1))) (aj 0) (rG h t m a (f7 g3) o1 s6)=some (iL (left m a),.own):=λs6=>by
  have:=yf (f:=eC (.int 1)) (g:=e2 f9 (aj 2) (eC (.int 1))) (Y:=rG h t m a (f7 g3) o1 s6) (i:=1) (j:=(m:Int)+1) rfl (aQ rfl rfl rfl) rfl (by unfold small;rw[aaC (by lia),aaC (by lia)];rfl);rw[show((m:Int)+1-1).toNat=m by lia] at this;apply lS (r:=[some (.int a,.sh [])]) this (by rw[c_];lia) (λx=>rfl) λx mx=>rfl
 refine bq rfl (b7 (Ba (ps:=[(.int m,.sh []),(.int h,.sh []),(.int 1,.own),(.int t,.sh [])]) rfl rfl hW hh #[by decide,ht.1,ht.2]) (sq (lM (pI (n:=m) rfl (by lia)) ja) (sq (Y':=rG h t m a g2 o1 none) ((jK (xA (ps:=[(.int 0,.own),(iL [a],.sh []),(eL [],.own)]) rfl rfl rfl ea)).trans (by ext o1<;>rfl)) (sq (Y':=rG h t m a g3 o1 none) ((jK (xA (ps:=[(.int a,.sh [])]) rfl rfl rfl ew)).trans (by ext o1<;>rfl)) (bZ (kN (b:=true) (bA (say (t:=.sh [4]) rfl rfl z1 rfl (iX "out" (S5 (C9 "withdrawn")))))) (bZ (kN (b:=true) (bA (say (t:=.sh [4]) rfl (aQ rfl rfl rfl) z2 rfl (iX "out" (iX "leans" (kX a)))))) (sq (Y':=rG h t m a (cI (cY g3)) o1 none) ((jK (xA (ps:=[]) rfl rfl rfl es)).trans (by ext o1<;>rfl)) (sq (Y':=rG h t m a (f7 g3) o1 none) ((jK (xA (ps:=[]) rfl rfl rfl eg)).trans (by ext o1<;>rfl)) (b7 (cl none) ?_)))))))));have tn:∀g',tV (e2 nS (aj 6) (eZ aA)) (rG h t m a g' o1 (some (iL (left m a),.own)))=some (!decide (left m a=[])):=λg'=>bA (aQ (d2:=iL []) rfl rfl (Oc _ _))
 by_cases hz:left m a=[]
 .exact sq (Ou (XI ((tn _).trans (by rw[hz];rfl)))) (fin _ λk q hq=>by rw[hz] at hq;ext hq)
 .let#[g',Kn,hw]:=ey hz;refine sq (Y':=rG h t m a g' o1 (some (iL (left m a),.own))) (Ou (ad6 ((tn _).trans (by rw[aa8 hz];rfl)) ?_)) (fin _ hw);unfold CU;rw[xA (ps:=[(tD (left m a),.own),(.str "yes",.own)]) rfl (by rw[aM,cN rfl CS];rfl) rfl Kn];ext o1<;>rfl
def cl(ns:List Int)(k:Nat):Int:=ns.getD k 0
def Eb{k:Nat}:ZZ [dI ns,.int k]=some (.int (cl ns k)):=by
 have t:tV (e2 oLt (aj 1) (e1 fW (aj 0))) [some (dI ns,.sh []),some (.int k,.sh [])]=some (decide ((k:Int)<ns.length)):=bA (aQ rfl (cN rfl (by show some (D.int (ns.map D.int).length)=_;rw[List.length_map])) rfl);unfold cl
 by_cases h:k<ns.length
 .refine bq rfl (mh (t.trans (by rw[aaC (by lia)])) (cu (aQ rfl rfl (Z7 (d:=.int (ns.getD k 0)) ?_ rfl))));have:=RM (ns:=ns) (i:=(k:Int)) (by lia) (by lia)
  rwa [show((k:Int)).toNat=k by lia] at this
 .refine bq rfl (bZ (t.trans (by rw[aa8 (by lia)])) ?_);rw[adA,aiD (by lia)];rfl
def lQ(hm:0<m):0<=mx a p m/\mx a p m<m:=#[Int.emod_nonneg _ (by lia),Int.emod_lt_of_pos _ hm]
def uS(h:f Y=some (.int n,t))(hp:0<p)(h3:f3 Y=some (.int m,t3))(hm:0<m):e2 f9 (eC (.int 1)) (bC sA (ao f (ao (eC (.int p)) (ao f3 aA)))) Y=some (.int (1+mx n p m),.own):=aQ rfl (qL h hp h3 hm) rfl
def BN(h:g Y=some ps)(h2:F (ps.map (·.1))=some (.bl true)):iW (tV (bC F g)) Y=some false:=kN (b:=true) (bA (bP h h2))
def rA(ns:List Int)(a b w t:Int)(s5:Slot)(rk:List Int)(s7:Slot):aU:=[some (dI ns,.sh []),some (.int a,.own),some (.int b,.own),some (.int w,.own),some (.int t,.own),s5,some (iL rk,.own),s7]
def acT{l:List Int}:∀k∈(l.filter λ_=>true).map (λx:Int=>x % 10),0<=k/\k<=9:=λk m=>by
 let#[x,_,rfl]:=acg.mp m
 lia
def aez(hl:ns.length<=63):Aq [dI ns]=some (.bl true):=by
 obtain⟨q,hq,q1,q2⟩:∃q,fC (.lst [.int 4,.int 4,.int 16]) (.int (mx (cl ns 0) 65537 3))=some (.int q)/\1<=q/\q<=16:=by
  have h:=lQ (a:=cl ns 0) (p:=65537) (m:=3) (by decide);generalize mx (cl ns 0) 65537 3=j at h;obtain rfl|rfl|rfl:j=0\/j=1\/j=2:=by lia
  .exact#[4,rfl,by decide,by decide]
  .exact#[4,rfl,by decide,by decide]
  .exact#[16,rfl,by decide,by decide]
 have hw:=lQ (a:=cl ns 0) (p:=99991) (m:=q) (by lia);obtain⟨w,ew⟩:∃w:Nat,1+mx (cl ns 0) 99991 q=(w:Int):=#[(1+mx (cl ns 0) 99991 q).toNat,by lia]
 have ht:=lQ (a:=cl ns 1) (p:=80021) (m:=6) (by decide);generalize et:1+mx (cl ns 1) 80021 6=t at *;have h1:=lQ (a:=cl ns 0) (p:=90001) (m:=8) (by decide);have h2:=lQ (a:=cl ns 0) (p:=80021) (m:=8) (by decide);have h3:=lQ (a:=cl ns 1) (p:=90001) (m:=8) (by decide);have h4:=lQ (a:=cl ns 1) (p:=20011) (m:=2) (by decide);have h5:=lQ (a:=cl ns 2) (p:=30011) (m:=8) (by decide);obtain⟨m,em⟩:∃m:Nat,1+mx (cl ns 2) 30011 8=(m:Int):=#[(1+mx (cl ns 2) 30011 8).toNat,by lia]
 have h6:=lQ (a:=cl ns 2) (p:=40009) (m:=(m:Int)) (by lia);obtain⟨u,hu,eu⟩:∃u:Str,(u="no"\/u="unsure")/\fC (.lst [.str "no",.str "unsure"]) (.int (mx (cl ns 1) 20011 2))=some (.str u):=by
  generalize mx (cl ns 1) 20011 2=j at h4;obtain rfl|rfl:j=0\/j=1:=by lia
  .exact#["no",.inl rfl,rfl]
  .exact#["unsure",.inr rfl,rfl]
 obtain⟨l,el,ll⟩:∃l:List Int,l_ (some 3) (some 15) (dI ns)=some (iL l)/\l.length<=12:=by
  refine#[(ns.drop (min 3 ns.length)).take (min 15 ns.length-min 3 ns.length),?_,?_]
  .show(if aP (ns.map D.int)=true then some (D.lst (cutD (ns.map D.int) (some 3) (some 15))) else none)=_;rw[if_pos (fm _)];unfold cutD iL;rw[aiT,List.map_drop,List.length_map,show(some 3:Option Int)=some ((3:Nat):Int) from rfl,show(some 15:Option Int)=some ((15:Nat):Int) from rfl,HT.yz,HT.yz]
  .rw[ah9];lia
 have c1:∀Y,aj 0 Y=some (dI ns,.sh [])->eW [none] (fG (e1 (l_ (some 3) (some 15)) (aj 0))) (gN 0) lU (e2 oMod (aj 0) (eC (.int 10))) Y=some (iL ((l.filter λ_=>true).map λx=>x % 10),.own):=λY h=>by
  rw[Jy (p:=λ_=>true) (f:=λx=>x % 10) (gX (cN h el)) (by lia) λx _=>nL rfl rfl (aQ rfl rfl (Uc x))]
 obtain⟨rk,r1,r2,st⟩:∃rk:List Int,(∀k∈rk,0<=k/\k<=9)/\rk.length<=12/\dN (tV (e2 oEq (bC sA (ao (aj 2) (ao (eC (.int 30011)) (ao (eC (.int 3)) aA)))) (eC (.int 1)))) (dw 6 (eW [none,some 2] (sS (bC sA (ao (aj 2) (ao (eC (.int 40009)) (ao (eC (.int 13)) aA))))) (gN 0) lU (bC sA (ao (e2 f9 (aj 1) (e2 AI (aj 0) (aj 0))) (ao (eC (.int 50021)) (ao (eC (.int 10)) aA)))))) eO (rA ns (cl ns 0) (cl ns 1) w t none ((l.filter λ_=>true).map λx=>x % 10) none)=some (.nx (rA ns (cl ns 0) (cl ns 1) w t none rk none)):=by
  have tt:=bA (aQ (op:=oEq) (qL (Y:=rA ns (cl ns 0) (cl ns 1) w t none ((l.filter λ_=>true).map λx=>x % 10) none) (f:=aj 2) (f3:=eC (.int 3)) (p:=30011) (n:=cl ns 1) (m:=3) rfl (by decide) rfl (by decide)) (g:=eC (.int 1)) rfl OW);cases hb:mx (cl ns 1) 30011 3==1 with
  |false=>apply#[_,acT,by rw[List.length_map];have:=ad9 (λ_:Int=>true) l;lia,JW (tt.trans (by rw[hb])) rfl]
  |true=>
   have hn:=lQ (a:=cl ns 1) (p:=40009) (m:=13) (by decide);obtain⟨n,en⟩:∃n:Nat,mx (cl ns 1) 40009 13=(n:Int):=#[(mx (cl ns 1) 40009 13).toNat,by lia]
   refine#[((aJ 0 n).filter λ_=>true).map λx=>mx (cl ns 1+x*x) 50021 10,λk mk=>?_,?_,tK (tt.trans (by rw[hb])) ?_]
   .let#[x,_,rfl]:=acg.mp mk;have:=lQ (a:=cl ns 1+x*x) (p:=50021) (m:=10) (by decide)
    lia
   .rw[List.length_map];have:=ad9 (λ_:Int=>true) (aJ 0 n);rw[c_] at this
    lia
   .unfold dw;rw[Jy (p:=λ_=>true) (f:=λx=>mx (cl ns 1+x*x) 50021 10) (pI (n:=n) (t:=.own) (en ▸ qL rfl (by decide) rfl (by decide)) (by lia)) (by rw[c_];lia) λx rm=>?_]
    .rfl
    .have hx:=dX.mp rm;apply nL rfl rfl (qL (aQ rfl (aQ rfl rfl (Fo (S9 (by lia)))) rfl) (by decide) rfl (by decide))
 have W:1<=w/\w<=16:=by lia
 have T:1<=t/\t<=20:=by lia
 refine bq rfl (b7 (bP rfl (Eb (k:=0))) (b7 (bP rfl (Eb (k:=1))) (b7 (d:=.int w) (t:=.own) ?_ (b7 (d:=.int t) (t:=.own) (et ▸ uS rfl (by decide) rfl (by decide)) (b7 (c1 _ rfl) (sq st (bZ (BN (ps:=[(.int w,.sh [3]),(.int (1 + mx (cl ns 0) 90001 8),.own),(.int t,.sh [4]),(iL rk,.sh [6])]) (by rw[aM,aM,uS rfl (by decide) rfl (by decide)];rfl) (aeU W (by lia) T r1 r2))
  (bZ (BN (ps:=[(.int t,.sh [4]),(.int (1 + mx (cl ns 0) 80021 8),.own),(.int (cl ns 1),.sh [2])]) (by rw[aM,aM,uS rfl (by decide) rfl (by decide)];rfl) (agb (by lia) T))
  (bZ (BN (ps:=[(.int w,.sh [3]),(.int (1 + mx (cl ns 1) 90001 8),.own),(.int t,.sh [4]),(.str u,.own)]) (by rw[aM,aM,aM,aM,uS rfl (by decide) rfl (by decide),aQ (d1:=.lst [.str "no",.str "unsure"]) rfl (qL rfl (by decide) rfl (by decide)) eu];rfl) (ZX W (by lia) T hu))
  (b7 (bP rfl (Eb (k:=2))) (bZ (BN (ps:=[(.int ((w:Int) % 16),.own),(.int (1 + cl ns 2 % 8),.own),(.int t,.sh [4]),(.int (cl ns 2 % 1000),.own),(.int (1 + cl ns 2 % (10 ^ 9 - 1)),.own)]) ?_ (adg (by lia) (by lia) T (by lia) (by lia)))
  (b7 (d:=.int m) (t:=.own) (em ▸ uS rfl (by decide) rfl (by decide)) (cu (bP (ps:=[(.int 1,.own),(.int t,.sh [4]),(.int m,.sh [7]),(.int (1+mx (cl ns 2) 40009 m),.own)]) (by rw[aM,aM,aM,aM,uS rfl (by decide) (m:=(m:Int)) rfl (by lia)];rfl) (aap (by decide) T (by lia) (by lia))))))))))))))))
 .rw[<- ew];apply aQ rfl (qL rfl (by decide) (aQ (d1:=.lst [.int 4,.int 4,.int 16]) rfl (qL rfl (by decide) rfl (by decide)) hq) (by lia)) rfl
 .have a1:∀{Y},aj 5 Y=some (.int (cl ns 2),.sh [5])->e2 f9 (eC (.int 1)) (e2 oMod (aj 5) (e2 lI (e2 ON (eC (.int 10)) (eC (.int 9))) (eC (.int 1)))) Y=some (.int (1+cl ns 2 % (10 ^ 9-1)),.own):=λ{Y} h=>aQ rfl (aQ h (aQ (aQ (d:=.int (10 ^ 9)) rfl rfl rfl) rfl rfl) (qH (by decide))) rfl
  have a2:∀{Y},aj 5 Y=some (.int (cl ns 2),.sh [5])->e2 f9 (eC (.int 1)) (e2 oMod (aj 5) (eC (.int 8))) Y=some (.int (1+cl ns 2 % 8),.own):=λ{Y} h=>aQ rfl (aQ h rfl (qH (by decide))) rfl
  rw[aM,aM,aM,aM,aM,a1 rfl,a2 rfl,aQ (op:=oMod) (d:=.int ((w:Int) % 16)) rfl rfl (qH (by decide)),aQ (op:=oMod) (d:=.int (cl ns 2 % 1000)) rfl rfl (qH (by decide))];rfl
end K65
namespace HT
open PySem PySem.W PyProof.Rows
section
variable{K:Params->Frag}
end
end HT
namespace K65
open PySem L2 L2.Ev
local macro_rules | `(tactic| walk_at "ba")=>`(tactic| first | apply ba_n 1 rfl fun _ _ _ _ _ _ _=>rfl | apply ba_n 2 rfl fun _ _ _ _ _ _ _=>rfl | apply ba_n 3 rfl fun _ _ _ _ _ _ _=>rfl | apply ba_n 4 rfl fun _ _ _ _ _ _ _=>rfl | apply ba_n 5 rfl fun _ _ _ _ _ _ _=>rfl)
set_option maxHeartbeats 0 in
def all_mk{l:PySem.W.OpenLaw}{w:World}{K:Fr}{h:Heap}{mg:Str->Option Value}{fa:Addr}(X:K.In h)(G:h.Ns mainGlobals mg)(DB:mg "law"=some (.ref fa))(q:tL L K=true)(t:tab.map (look K)=tab.map want):
  ∃fd:FuncData,(∀(s:Shared) (v:Value),BindsTo s fd #[[v],[]] [("_law_script",v)])/\∀base:Heap,K.In base->base.Ns mainGlobals mg->b_ l.prog w K mg base dO 15 fa fd ["_law_script"] (aX K Aq):=by
 refine Zs (sp:=λ_=>aX K Aq) X G DB (Cq (s:=top 63) 31 t rfl) (λ_ _ _ _ _ _ _ _=>.of_eq rfl) λbase _ _ _ _ F=>?_
 have E:En L #[l.prog,w,K,mg,base]:=WI X G q;have W0:=eS X G t 0 (EU _ E);have W1:=eS X G t 1 (Jf _ E);have W2:=eS X G t 2 (D6 _ E);have W3:=eS X G t 3 (Hj _ #[E,W2]);have MQ:=Ip t q 32 (Q0 _ E);have zh:=Ip t q 42 (DV _ #[E,W3,W2,MQ]);have W4:=eS X G t 4 (HE _ E);have Jo:=dG t 33 (EW _ E);have yM:=dG t 34 (DL _ #[E,W2,Jo]);have W5:=eS X G t 5 (IK _ #[E,W2,W4]);have Yv:=dG t 35 (Gz _ #[E,W2,W4,yM,W5]);have W36:=dG t 36 (Kg _ #[E,Yv,Jo]);have V9:=dG t 43 (II _ E);have Bt:=dG t 44 (KO _ #[E,Jo,V9]);have Im:=dG t 37 (Ia _ #[E,yM]);have JO:=dG t 38 (Gx _ #[E,Im]);have W45:=dG t 45 (J4 _ #[E,Bt,JO]);have NU:=dG t 67 (Io _ E);have GB:=dG t 46 (El _ #[E,NU]);have Gp:=dG t 47 (JI _ E);have CP:=dG t 48 (DY _ #[E,GB,Gp]);have W6:=eS X G t 6 (DH _ E);have W7:=eS X G t 7 (HY _ E);have W8:=eS X G t 8 (QH _ #[E,W6,W7]);have zR:=dG t 39 (Ln _ #[E,Im]);have W9:=eS X G t 9 (Jx _ #[E,W8,zR]);have OG:=eS X G t 10 (KH _ #[E,W9]);have W40:=dG t 40 (Fd _ #[E,Im]);have O2:=eS X G t 11 (Je _ #[E,W40]);have Sg:=eS X G t 12 (D4 _ #[E,W6,zR]);have W13:=eS X G t 13 (Il _ #[E,O2,Sg]);have Iu:=eS X G t 14 (Lo _ #[E,JO]);have W15:=eS X G t 15 (EC _ #[E,OG,W13,Iu,zR]);have Yq:=dG t 49 (Ij _ #[E,CP,Gp,GB]);have Xd:=dG t 50 (G4 _ #[E,W9]);have Mm:=eS X G t 16 (Kf _ #[E,W6]);have Yh:=dG t 51 (Gv _ #[E,Iu,Bt,Xd,Mm,zR]);have W52:=dG t 52 (G5 _ #[E,CP,W15,Bt,Yq,Yh]);have W53:=dG t 53 (JX _ #[E,GB]);have W17:=eS X G t 17 (K3 _ E);have W18:=eS X G t 18 (F7 _ #[E,W17]);have XE:=dG t 54 (JP _ #[E,W53,Gp,W18,CP]);have xU:=dG t 55 (Ko _ #[E,W45,W52,XE]);have yO:=dG t 56 (EA _ #[E,W36,xU]);have WU:Sh _:=Vy X G (Cq 19 t rfl) (λm k b F=>acK E m k b F) (by walk_at "ba");have wY:=eS X G t 20 (FH _ #[E,WU]);have Zw:=dG t 41 (JS _ #[E,MQ]);have Ks:=dG t 57 (HS _ #[E,Zw]);have Q7:=dG t 58 (HK _ E);have VX:=dG t 59 (Ex _ E);have Ol:=dG t 60 (JZ _ E);have XH:=dG t 61 (K5 _ E);have W21:=eS X G t 21 (K8 _ #[E,OG,Iu,Sg]);have VO:=eS X G t 22 (KW _ #[E,XH,Ks,Q7,Ol,JO,CP,Mm,zR,W9,O2,W21,Bt]);have yR:=eS X G t 23 (KG _ #[E,yM,Ks,Q7,VX,Ol,VO]);have DN:=dG t 62 (Gq _ #[E,xU]);have W24:=Wh X G t 24 (G3 _ #[E,yM,Ks]);have WD:=eS X G t 25 (Jh _ #[E,W24]);have W26:=eS X G t 26 (EY _ #[E,zh,yO,wY,yR,DN,WD]);have W27:=eS X G t 27 (DX _ #[E,zh,yO,W1,wY,yR]);have LF:=dG t 63 (Ji _ #[E,xU]);have W68:=dG t 68 (HW _ #[E,NU]);have W69:=Ip t q 69 (IE _ #[E,W3]);have W64:=dG t 64 (Kw _ E);have DQ:=dG t 65 (F4 _ #[E,W68,W69,W64,xU]);have UD:=eS X G t 28 (IL _ #[E,zh,yO,DN,LF,DQ,wY,yR]);have W29:=eS X G t 29 (DT _ #[E,zh,yO,wY,yR,DQ]);have W66:=dG t 66 (Fw _ #[E,yM,xU]);have W30:=eS X G t 30 (G9 _ #[E,zh,yO,W66,wY,yR,DN,LF,DQ]);apply o_law _ #[E,W0,W1,W26,W27,UD,W29,W30] _ _ F
def wk:Wk:=λhY hT hL hq ht yl hdn=>
 L2.adb (n:=63) (k:=15) (x:="_law_script") (CX:=λ_=>dO) (sp:=λw=>aX (_:Fr) Aq) rfl (by decide) yl #[λ_=>rfl,by decide,by decide,rfl] hY hT hL (λw mg fa h KX G wN=>all_mk KX G (hdn ▸ wN) (hq w) (ht w)) (λw H a ns hl hz=>by
  refine#[[dI ns],[]++[],.bl true,.cons (.uT hz (zo ns)) .nil,aez hl,λH' v gZ _ r _ _=>?_];ext r;rfl) λ_ _ _ _ _ z=>z
open PySem PySem.W PyProof.Rows L2 L2.Ev
end K65
theorem PySem.Challenge.cw_linegate_k65_reasons_one_by_one_holds : PySem.Challenge.rw_linegate_k65_reasons_one_by_one.Holds := by
 apply K65.early K65.wk
