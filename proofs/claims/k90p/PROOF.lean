import PyProof.Rows.All
import Wide.All
import OpenK.AllK
import Wide.FinOn
import PySem.Challenge.RW_linegate_k90_whole_line_looked_at
set_option Elab.async false
set_option linter.all false
set_option maxRecDepth 100000
set_option hygiene false
local macro_rules|`(tactic|exists 20,$p)=>`(tactic|refine ⟨_,$p,@fun H0 S z aq ρ σ H Q d tg ok e q=>?_⟩)
local macro_rules|`(tactic|exists 21,$p)=>`(tactic|refine ⟨_,$p,@fun H0 S z aq ρ σ H Q d tg ok e k=>?_⟩)
local macro_rules|`(tactic|exists 22,$p)=>`(tactic|refine ⟨_,$p,@fun H0 S z aq ρ σ H Q c ok e k=>?_⟩)
local macro_rules|`(tactic|exists 23,$p)=>`(tactic|refine ⟨_,$p,@fun H0 S z aq ρ σ H E o ok e k=>?_⟩)
local macro_rules|`(tactic|exists 24,$p)=>`(tactic|refine ⟨_,$p,@fun H0 S z aq ρ σ H R ds tg ok e k=>?_⟩)
local macro_rules|`(tactic|exists 25,$p)=>`(tactic|refine ⟨_,$p,@fun H0 S z aq ρ σ H E o ok e q=>?_⟩)
local macro_rules|`(tactic|exists 26,$p)=>`(tactic|refine ⟨_,$p,@fun H0 S z aq ρ σ H Q c ρ' ok e k=>?_⟩)
local macro_rules|`(tactic|exists 27,$p)=>`(tactic|refine ⟨_,$p,@fun H0 S z aq ρ σ H Q d ρ' ok e k=>?_⟩)
local macro_rules|`(tactic|exists 40)=>`(tactic|intro value slice af s σ H x y v u Q I rx ry h hs)
local macro_rules|`(tactic|exists 41)=>`(tactic|intro X hP hw hK hc i af s σ H E I hf st hg)
local macro_rules|`(tactic|exists 42)=>`(tactic|intro H x y d1 d2 f1 f2 d Q r1 r2 e k)
local macro_rules|`(tactic|exists 43)=>`(tactic|intro af s σ H x vs v us Q I rx rv h)
local macro_rules|`(tactic|exists 44)=>`(tactic|intro af s σ H x y v u Q I rx ry h)
local macro_rules|`(tactic|exists 45)=>`(tactic|intro af s σ H xs us Q I r h)
local macro_rules|`(tactic|exists 46)=>`(tactic|intro H x d1 f1 d Q r e k)
local macro_rules|`(tactic|exists 47)=>`(tactic|intro af s σ H Q I h)
local macro_rules|`(tactic|exists 48)=>`(tactic|intro af s σ H D I h)
local macro_rules|`(tactic|exists 49)=>`(tactic|intro Q E p s d k h)
local macro_rules|`(tactic|exists 50)=>`(tactic|intro Q E p s d)
local macro_rules|`(tactic|exists 51)=>`(tactic|(obtain ⟨ta,pa,sa⟩:=ha;obtain ⟨tb,pb,sb⟩:=hb))
local macro_rules|`(tactic|exists 52)=>`(tactic|exact⟨λb o q=>PySem.W.of_hideAll _ q,PySem.W.hideAll_none _ (by simp),hF,oe,vs,T,oT,ts,h1,⟨h2,h0⟩,h3,t1,PySem.W.hideAll_none _ (by simp),t2,t5,t6,t7⟩)
local macro_rules|`(tactic|exists 53)=>`(tactic|exact k H _ (aH.refl H) (.bl _))
local macro_rules|`(tactic|exists 54)=>`(tactic|refine sb (ok.same s1) jt λH2 y f2 s2 r2 _=>?_)
local macro_rules|`(tactic|exists 55)=>`(tactic|refine wpAny_call (codeAny_mono (F.run X.A X.stack s H ⟨us,[]⟩ (us++ds) (vs++eK) Q E hr I.Gp (hb s us I.c8 hl) r2 h) λr s' hq=>?_))
local macro_rules|`(tactic|exists 56)=>`(tactic|have L0:Looks (model prog w) hh (typeOf (.ref x)) (.ref C):=hc ▸ (Looks.ld hx).andThen .now)
local macro_rules|`(tactic|exists 57)=>`(tactic|refine aM (hi af s σ H _ I h) λiv s1 ⟨y,H1,I1,ry,q1⟩=>aM (ho af s1 σ H1 _ I1 q1) λu s2 ⟨x,H2,I2,rx,a,ov,ex,g,q2⟩=>?_)
local macro_rules|`(tactic|exists 58)=>`(tactic|obtain⟨f0,f1,f2,f3,f4,f5⟩:=hf it (by simp))
local macro_rules|`(tactic|exists 59)=>`(tactic|refine q ok h λH1 v fp s1 r1 g1=>?_)
local macro_rules|`(tactic|exists 60)=>`(tactic|refine k _ _ [p] ((s1.trans s2).trans s3) (.lst cB (rr.same s3)) ⟨abV.mpr ⟨(λm=>by cases m),acj⟩,λa m=>?_⟩)
local macro_rules|`(tactic|exists 61)=>`(tactic|show(if aN (g.ld.map D.int)=true then some (D.lst (cutD (g.ld.map D.int) none (some (p:Int))),Tag.own) else none)=_)
local macro_rules|`(tactic|exists 62)=>`(tactic|refine PySem.W.methodCall_KW (pl:=pl) (aM (he af s σ H _ I h) λu s1 ⟨x,H1,I1,rx,a,dx,fs,ex,ea,l,q⟩=>?_) ht)
local macro_rules|`(tactic|exists 63)=>`(tactic|rw[show fq f v ((k,x)::r)=(if k=f then(k,v)::r else(k,x)::fq f v r) from rfl])
local macro_rules|`(tactic|exists 64)=>`(tactic|rw[show au.toArray.any (iP x)=au.any (iP x) by simp,xj r fs])
local macro_rules|`(tactic|exists 65)=>`(tactic|have cJ:starEach [.Name x p2] X.env=[(false,eval (.Name x p2) X.env)]:=rfl)
local macro_rules|`(tactic|exists 66)=>`(tactic|obtain rfl:u=Value.ref a:=rx)
local macro_rules|`(tactic|exists 67)=>`(tactic|obtain⟨o',e1⟩:=I.base.there b o e hx)
local macro_rules|`(tactic|exists 68)=>`(tactic|refine A _ _ _ (bq.lt P (by lia)) (bq.lt P (by lia)) ?_)
local macro_rules|`(tactic|exists 69)=>`(tactic|obtain⟨t,p,q⟩:=ha)
local macro_rules|`(tactic|exists 70)=>`(tactic|dsimp only at e)
local macro_rules|`(tactic|exists 71)=>`(tactic|refine⟨λd hd=>?_,λhl=>⟨xs,hq,by rw[<- rs.length];exact hl⟩⟩)
local macro_rules|`(tactic|exists 72)=>`(tactic|obtain⟨oe,vs,a0,T,oT,ts,h1,h2,h0,h3,t1,t2,t3,t4,t5,t6,t7⟩:=fl.ob)
local macro_rules|`(tactic|exists 73)=>`(tactic|simp only[PyData.hasDict])
local macro_rules|`(tactic|exists 74)=>`(tactic|rcases g with⟨ak,k,e,ey,l⟩|⟨ak,k,b,e,ey,eb,l⟩)
local macro_rules|`(tactic|exists 75)=>`(tactic|obtain⟨sl,e1⟩:=I.base.slot b o e n hb hx)
local macro_rules|`(tactic|exists 76)=>`(tactic|obtain⟨oe,vs,a0,T,oT,ts,h1,h2,h0,h3,t1,t2,tH,tA,t5,t6,t7⟩:=L.ob)
local macro_rules|`(tactic|exists 77)=>`(tactic|obtain⟨z,hd,vs,rel,dd⟩:=oX I.aE e)
local macro_rules|`(tactic|exists 78)=>`(tactic|obtain⟨x,mx,rfl⟩:=abX.mp m)
local macro_rules|`(tactic|exists 79)=>`(tactic|obtain⟨t,rfl⟩:=rx)
local macro_rules|`(tactic|exists 80)=>`(tactic|obtain⟨a,xs,f,rfl,hq,rs,_⟩:=r.dY)
local macro_rules|`(tactic|exists 81)=>`(tactic|obtain⟨u,rfl,ru⟩:=vals1 r)
local macro_rules|`(tactic|exists 82)=>`(tactic|exact absurd hm (by decide +kernel))
local macro_rules|`(tactic|exists 83)=>`(tactic|cases(show u=Value.ref a from rx))
local macro_rules|`(tactic|exists 84)=>`(tactic|obtain⟨hi,e⟩:=ci e)
local macro_rules|`(tactic|exists 85)=>`(tactic|refine sa ok e1 λH1 x f1 s1 r1 _=>?_)
local macro_rules|`(tactic|exists 86)=>`(tactic|obtain⟨d1,t1,d2,t2,e1,jt,e3,rfl⟩:=nR e)
local macro_rules|`(tactic|exists 87)=>`(tactic|obtain⟨e,n,ne,nf,d⟩:=I.pin p hp)
local macro_rules|`(tactic|exists 88)=>`(tactic|exact absurd this (by decide))
set_option hygiene true
noncomputable section
abbrev aaa:=@List.mem_cons_of_mem
abbrev aar:=@List.mem_cons_self
abbrev aas:=@List.map_cons
abbrev aaT:=@PySem.Heap.get?_push_of_some
abbrev aaV:=@List.mem_append_right
abbrev aa1:=@decide_eq_true
abbrev aa3:=@List.mem_singleton
abbrev aa7:=@PySem.wpAny_bind
abbrev abb:=@List.mem_cons
abbrev abd:=@of_decide_eq_true
abbrev abn:=@Bool.and_eq_true
abbrev abp:=@List.getElem?_eq_getElem
abbrev abq:=@List.mem_append_left
abbrev abz:=@Bool.false_ne_true
abbrev abE:=@List.mem_append
abbrev abL:=@List.getElem?_eq_some_iff
abbrev abM:=@PySem.Heap.lt_size
abbrev abN:=@List.length_append
abbrev abR:=@decide_eq_false
abbrev abT:=@Nat.le_refl
abbrev abV:=@List.nodup_cons
abbrev abX:=@List.mem_map
abbrev ab1:=@Option.some.inj
abbrev ab2:=@List.size_toArray
abbrev ab3:=@PySem.Heap.get?_push_size
abbrev acf:=@List.length_cons
abbrev acj:=@List.nodup_nil
abbrev aco:=@List.getElem?_map
abbrev acq:=@Option.map_eq_some_iff
abbrev acD:=@PySem.wpAny_pure
abbrev acE:=@List.append_nil
abbrev acI:=@Nat.ne_of_lt
abbrev acL:=@List.mem_filter
abbrev acO:=@List.getElem?_set_ne
abbrev acP:=@List.nodup_append
abbrev acU:=@Nat.lt_of_lt_of_le
abbrev acV:=@Option.bind_some
abbrev ac4:=@List.map_map
abbrev ada:=@List.all_eq_true
abbrev ade:=@List.map_append
abbrev ado:=@beq_eq_false_iff_ne
abbrev adu:=@List.getD_eq_getElem?_getD
abbrev adz:=@List.find?_cons
abbrev adB:=@List.contains_iff_mem
abbrev adE:=@Nat.le_trans
abbrev adK:=@List.pairwise_cons
abbrev adU:=@PySem.wpAny_mono
abbrev ad6:=@List.any_eq_true
abbrev aea:=@List.getElem?_append_left
abbrev aeh:=@List.length_singleton
abbrev aen:=@List.filterMap_cons
abbrev aep:=@PySem.Heap.get?_update_other
abbrev aer:=@List.getElem?_set_self
abbrev aes:=@Nat.zero_le
abbrev aet:=@List.lookup_cons
abbrev aew:=@List.not_mem_nil
abbrev aeB:=@List.getElem?_append_right
abbrev aeD:=@Option.bind_eq_some_iff
abbrev aeF:=@List.foldl_cons
abbrev aeL:=@List.mem_of_getElem?
abbrev aeM:=@Nat.lt_irrefl
abbrev aeN:=@List.filterMap_map
abbrev aeO:=@Array.length_toList
abbrev aeV:=@PySem.sizeLine_eq
abbrev aeW:=@Array.getD_eq_getD_getElem?
abbrev aeY:=@List.filter_sublist
abbrev ae5:=@List.length_filter_le
abbrev afg:=@PySem.wpAny_truthy_bool
abbrev afi:=@List.append_assoc
abbrev afk:=@Nat.le_of_lt
abbrev afl:=@beq_self_eq_true
abbrev afn:=@List.pairwise_map
abbrev afp:=@PySem.wpAny_holding
abbrev afr:=@Ne.symm
abbrev afv:=@PySem.wpAny_Call_Name_kw
abbrev afy:=@List.any_cons
abbrev afB:=@List.cons.injEq
abbrev afE:=@List.find?_eq_none
abbrev afH:=@Bool.and_self
abbrev afJ:=@beq_iff_eq
abbrev afK:=@PySem.Around.under_plainId
abbrev af4:=@List.find?_cons_of_neg
abbrev agc:=@List.map_congr_left
abbrev agd:=@Bool.eq_false_iff
abbrev age:=@Classical.byContradiction
abbrev agm:=@PySem.codeAny_builtin
abbrev agq:=@List.length_set
abbrev agr:=@List.mem_filterMap
abbrev agt:=@Option.isSome_iff_exists
abbrev agu:=@PySem.tupleKind_room_in1
abbrev agv:=@List.prefix_refl
abbrev agw:=@Nat.ne_of_gt
abbrev agx:=@Option.isSome_map
abbrev agy:=@PyProof.Rows.callWith_type1
abbrev agA:=@PySem.Heap.get?_update_ne
abbrev agB:=@Array.perm_iff_toList_perm
abbrev agC:=@List.filter_cons
abbrev agD:=@PySem.F.plain_min_loop
abbrev agE:=@PySem.Heap.get?_update_self
abbrev agF:=@Nat.lt_of_le_of_lt
abbrev agG:=@Bool.false_eq_true
abbrev agH:=@List.mem_of_find?_eq_some
abbrev agI:=@PySem.wpAny_passesOwn
abbrev agJ:=@List.any_map
abbrev agK:=@List.getElem?_replicate
abbrev agM:=@PySem.plainId_quiet
abbrev agP:=@Nat.lt_succ_self
abbrev agQ:=@List.length_take
abbrev agR:=@Bool.not_eq_true
abbrev agS:=@List.eq_nil_of_length_eq_zero
abbrev agT:=@decide_eq_decide
abbrev agU:=@PySem.Heap.size_push
abbrev agV:=@List.append_eq_nil_iff
abbrev agW:=@List.prefix_append
abbrev agX:=@Bool.eq_iff_iff
abbrev agY:=@PySem.wpAny_newObj_type
abbrev agZ:=@List.exists_cons_of_ne_nil
abbrev ag0:=@Bool.and_eq_true_iff
abbrev ag1:=@PySem.Heap.get?_none_of_le
abbrev ag2:=@List.getElem?_of_mem
abbrev ag3:=@Classical.not_forall
abbrev ag4:=@PySem.wpAny_tryCatch
abbrev ag5:=@List.drop_eq_getElem_cons
abbrev ag6:=@List.pairwise_iff_getElem
abbrev ag7:=@Option.getD_some
abbrev ag8:=@or_false
abbrev ag9:=@List.map_nil
abbrev aha:=@Nat.zero_add
abbrev ahb:=@List.all_map
abbrev ahc:=@PySem.wpAny_execs_nil
abbrev ahd:=@List.all_cons
abbrev ahe:=@PySem.wpAny_updateSeq
abbrev ahf:=@Bool.or_eq_true
abbrev ahg:=@List.find?_some
abbrev ahh:=@Sum.inl.inj
abbrev ahi:=@Nat.le_succ
abbrev ahj:=@Nat.lt_succ_of_lt
abbrev ahk:=@List.length_range
abbrev ahl:=@decide_eq_true_eq
abbrev ahm:=@List.mem_range
namespace L2
open PySem PySem.Spec
open PySem PySem.Spec PyProof.Rows
noncomputable def vX(o:Obj):Option (Value×Str×Pos):=match o.data with
 |.func fd=>match fd.body with
  |.stmts [.Return (some (.Call _ _ [⟨_,.Lambda _ _ _ pos,_⟩] _)) _]=>some (fd.code,fd.qualname++".<locals>."++"<lambda>",pos)
  |_=>none
 |_=>none
def Am(K:PySem.W.Frag)(p:Addr×Obj):Option (Addr×Addr×Str×Pos):=match vX p.2 with
 |some (.ref c,q,pos)=>match K.lookup c with
  |some ⟨_,_,.fields vs,_⟩=>match(vs[11]? : Option Value) with
   |some (.ref P)=>some (c,P,q,pos)
   |_=>none
  |_=>none
 |_=>none
def jc(K:PySem.W.Frag):List (Addr×Addr×Str×Pos):=K.filterMap (Am K)
noncomputable def qw(K:PySem.W.Frag):Bool:=K.all λp=>match p.2.data with
 |.seq au _=>au.size==0||au.toList.any λv=>match v with|.int _ _=>false|_=>true
 |_=>true
def xK(K:PySem.W.Frag):Bool:=(qw K&&K.all λp=>(vX p.2).isNone||(Am K p).isSome)&&match jc K with
 |[]=>true
 |[r]=>PySem.W.codeHdIn K r.1 r.2.1&&(K.lookup r.2.1).isNone
 |_=>false
end L2
namespace L2
open PySem PySem.Spec PyProof.Rows
noncomputable def inClass(s:Stmt)(j:Nat):Stmt:=match s with
 |.ClassDef _ _ _ body _ _ _ _ _ _ _=>body.getD j (.Pass ⟨0,0,0,0⟩)
 |_=>.Pass ⟨0,0,0,0⟩
noncomputable def l8(s:Stmt):Arguments:=match s with
 |.FunctionDef _ a _ _ _ _ _ _ _ _=>a
 |_=>{ posonlyargs:=[],args:=[],vararg:=none,kwonlyargs:=[],kw_defaults:=[],kwarg:=none,defaults:=[] }
noncomputable def gO(s:Stmt):List Stmt:=match s with
 |.FunctionDef _ _ b _ _ _ _ _ _ _=>b
 |_=>[]
noncomputable def cz(s:Stmt):Scope:=match s with
 |.FunctionDef _ _ _ _ _ _ sc _ _ _=>sc
 |_=>{ kind:=.function,names:=[],isGenerator:=false,isCoroutine:=false }
end L2
namespace L2.Ev
open PySem PySem.W
noncomputable abbrev NF:List Value:=[.type "ValueError",.type "Exception",.type "BaseException",.type "object"]
end L2.Ev
namespace L2
open PySem PySem.Spec PyProof.Rows
theorem tabs_ok{K:Params->PySem.W.Frag}{e:∀P,as=(K P).map (·.1)}(h:∀w:World,(jc (K w.params)).map (·.2.1)=ts)(w:World)(hp:Heap)(Y:(PySem.W.kmHook K as e ts).says w hp):∀r∈jc (K w.params),hp.get? r.2.1=some (PySem.W.tabObj #[]):=
 λr m=>PySem.W.km_tabs_of Y _ (by rw[<- h w];exact List.mem_map_of_mem m)
end L2
namespace L2.Ev
open PySem PySem.Spec PySem.W PyProof.Rows
structure Ls where
 bt:List Str
 gi:List (Str×Int)
 tp:List (Str×List Str)
 cl:List Str
 na:List (Str×Str)
 ni:Bool
 ex:List Str
 xc:List Str
 ct:List (Str×List Str)
 kt:List (Str×List (Str×Bool))
 ki:List (Str×List Str×List (Str×Bool))
noncomputable def cA(K:Frag)(c:Str):Addr:=match nsIn K mainGlobals c with
 |some (some (.ref a))=>a
 |_=>0
def kv(K:Frag)(c:Str):Value:=if c == "ValueError" then .type "ValueError" else .ref (cA K c)
noncomputable def iO:Stmt->Str
 |.FunctionDef x ..=>x
 |_=>Str.empty
def iG(c:Str)(s:Stmt):Str:=if c==Str.empty then iO s else c++"."++iO s
noncomputable def strOf:Value->Option Str
 |.str s _=>some s
 |_=>none
def EA(K:Frag)(x:Str)(l:List Str):Bool:=match nsIn K mainGlobals x with
 | some (some (.ref a))=>(match K.lookup a with
  |some ⟨c,none,.seq au _,_⟩=>c == .type "tuple"&&decide (au.size<=sizeLine)&&au.toList.map strOf==l.map some
  |_=>false)
 |_=>false
noncomputable def LL(K:Frag)(x:Str)(n:Int):Bool:=match nsIn K mainGlobals x with
 |some (some (.int m _))=>m==n
 |_=>false
def xU(K:Frag)(c:Str):Bool:=nsIn K mainGlobals c==some (some (.ref (cA K c)))&&plainGet K (cA K c) Str.empty&&hasDictIn K (cA K c)&&plainOver K (cA K c)&&findIn K (.ref (cA K c)) "__setattr__" == some (some (.builtin "object.__setattr__"))&&makesIn K (cA K c)&&keepIn K (.ref (cA K c))
def ek(K:Frag)(r:Str):Bool:=findIn K (.ref (cA K r)) "__getattribute__" == some (some (.builtin "BaseException.__getattribute__"))&&findIn K (.ref (cA K r)) "__getattr__" == some none&&findIn K (.ref (cA K r)) "__class__" == some (some (.builtin "object.__class__"))&&specialIn K (.builtin "object.__class__") "__get__" == some (some (.builtin "getset_descriptor.__get__"))&&takesIn K (.builtin "object.__class__")==some true&&mroIn K (cA K r) (.type "object")==some true&&mroIn K (cA K r) (.type "BaseException")==some true
def KQ(L:Ls)(K:Frag):Bool:=L.ex.all (λc=>nsIn K mainGlobals c==some (some (.ref (cA K c))))&&L.xc.all (λc=>excIn K (cA K c) NF "ValueError.__new__")&&L.ct.all (λp=>L.xc.contains p.1&&mroIn K (cA K p.1) (.type "BaseException")==some true&&p.2.all λr=>L.xc.contains r&&L.ex.contains r&&mroIn K (cA K r) (.ref (cA K p.1))==some true)&&L.kt.all (λp=>p.2.all λr=>L.ex.contains r.1&&ek K r.1&&kitOne K (.ref (cA K r.1)) (kv K p.1)==some r.2)&&L.ki.all (λp=>p.2.2.all λr=>L.ex.contains r.1&&ek K r.1&&kitAny K (.ref (cA K r.1)) ((p.2.1.map (cA K)).map Value.ref)==some r.2)
def rB(L:Ls)(K:Frag):Bool:=(!L.ni||qw K)&&KQ L K&&L.bt.all (λx=>nsIn K mainGlobals x==some none)&&L.gi.all (λp=>LL K p.1 p.2)&&L.tp.all (λp=>EA K p.1 p.2)&&L.cl.all (xU K)&&L.na.all (λp=>findIn K (.ref (cA K p.1)) p.2==some none)
noncomputable def O9(fd:FuncData):FuncData:={ fd with kwdefaults:=.none,doc:=.none,pyModule:=.none,annotations:=none,code:=.none,closureTuple:=.none }
def Ic(K:Frag)(q:Str):Option (Option Value)->Option FuncData
 | some (some (.ref a))=>(match K.lookup a with
  |some ⟨_,_,.func fd,_⟩=>if(codeIn K fd.code q&&keepIn K (.ref a)&&isFn K (.ref a))=true then some (O9 fd) else none
  |_=>none)
 |_=>none
def look(K:Frag)(p:Str×Stmt):Option FuncData:=Ic K (iG p.1 p.2) (if p.1==Str.empty then nsIn K mainGlobals (iO p.2) else findIn K (.ref (cA K p.1)) (iO p.2))
def want(p:Str×Stmt):Option FuncData:=some (fnOf (iO p.2) (iG p.1 p.2) (l8 p.2) (gO p.2) (cz p.2) .none .none .none .none none .none .none)
end L2.Ev
namespace K90
open PySem L2 L2.Ev
noncomputable def top(i:Nat):Stmt:=PySem.Challenge.pw_linegate_k90_whole_line_looked_at.main.body.getD i (.Pass ⟨0,0,0,0⟩)
noncomputable def L:Ls:=⟨["all","bool","dict","int","isinstance","len","list","max","min","range","repr","sorted","tuple","zip"],[("GREATEST_RANK",9),("GREATEST_SLOT",999),("GREATEST_VALUE",1000000000),("MOST_CHANGES",60),("MOST_EDITS",20),("MOST_HANDS",8),("MOST_TRIES",20),("MOST_WIDTH",16)],[("BAD_WORDS",["no","unsure"]),("WORDS",["yes","no","unsure"])],["Changes","Gate","Tally"],[("Changes","entries"),("Gate","answers"),("Gate","breaks"),("Gate","ended"),("Gate","grounds"),("Gate","grown"),("Gate","halted"),("Gate","known"),("Gate","laid_ones"),("Gate","looks"),("Gate","numbers"),("Gate","on_line"),("Gate","tallies"),("Tally","heard"),("Tally","need"),("Tally","tries")],true,["LinegateError","NoLook"],["LinegateError","NoLook"],[("LinegateError",["NoLook"])],[("NoLook",[("NoLook",true)])],[]⟩
end K90
namespace HT
open PySem PySem.W PyProof.Rows
noncomputable def D3:List Obj->List Obj
 |[]=>[]
 |[a]=>[a]
 |a::_::l=>a::D3 l
def GP:Nat->List Obj->BT
 |0,_=>.nil
 |_+1,[]=>.nil
 |k+1,o::l=>.node o (GP k (D3 l)) (GP k (D3 l.tail))
noncomputable def ow(tb:String->Option Builtin)(p:Program)(w:World)(ym:Nat)(ann:Option Value):Nat->SharedT->Thread->Option SharedT
 |0,_,_=>none
 |k+1,s,t=>match through t with
  |true=>some s
  |false=>match stepOk ym ann t with
   |false=>none
   |true=>match stepT (denote tb) p w s t with
    |none=>none
    |some (s',t')=>ow tb p w ym ann k s' t'
theorem Om:∀{k} {s s'} {t},ow tb p w ym ann k s t=some s'->topRun tb p w ym ann k s.abs t=some s'.abs
 |0,_,_,_,h=>by cases h
 |k+1,s,s',t,h=>by
  unfold ow at h;unfold topRun;cases e:through t with
  |true=>rw[e] at h;cases h;rfl
  |false=>
   rw[e] at h;cases o:stepOk ym ann t with
   |false=>rw[o] at h;cases h
   |true=>
    rw[o] at h;cases g:stepT (denote tb) p w s t with
    |none=>rw[g] at h;cases h
    |some r=>obtain⟨s2,t2⟩:=r;rw[g] at h;rw[stepT_spec g];exact Om h
def Jh(P:Params):BT:=GP 12 (boot_heap P).objs.toList
noncomputable def mX:Nat:=11
theorem Vk(P:Params):(boot_heap P).objs.size=mX:=by kernel_rfl
theorem boot_abs(P:Params):absHeap (Jh P) mX (boot_heap P).life=boot_heap P:=by kernel_rfl
def sU(P:Params)(os:OsState):SharedT:=⟨Jh P,mX,(boot_heap P).life,Array.mk [],boot_drawn,boot_toks,os⟩
theorem Wu
  (he:opening p=plainProg p.main.scope.names) (hf:∀s,fenceModules? p s=some s) (hN:Nat.ble 600 N=true)
  (hz:∀P:Params,((boot_heap P).isNs mainGlobals,(boot_heap P).nsMap mainGlobals "__annotations__")=(true,ann))
  (h:∀(w) (os),(ow treeTable p w mX ann N (sU w.params os) (topStub p)).map (λsT=>
    ((staticsOk (importedModules p.main.body) (boot_heap w.params) sT.abs.heap&&namesBound p sT.abs.heap&&gensDone sT.abs&&laidKept (boot_heap w.params) sT.abs.heap),openSeen q loose (importedModules p.main.body) Xt true sT.abs,Yf sT.abs))=some (true,openGood q loose,Ya w)) :
  LeftO p q loose Xt Yf Ya N:=λw=>by
 obtain⟨⟨hh,gs,d,k,os⟩,e,e'⟩:=acq.mp (boot_open he hN hf w);obtain⟨rfl,rfl,rfl,rfl⟩:hh=boot_heap w.params/\gs=Array.mk []/\d=boot_drawn/\k=boot_toks:=by simpa using e'
 obtain⟨z1,z2⟩:_/\_:=by simpa only[Prod.mk.injEq] using hz w.params
 obtain⟨sT,r,l⟩:=acq.mp (h w os);obtain⟨l1,l2,l3⟩:_/\_/\_:=by simpa only[Prod.mk.injEq] using l
 have r':=Om r;have ab:(sU w.params os).abs=⟨boot_heap w.params,Array.mk [],boot_drawn,boot_toks,os⟩:=by
  show Shared.mk (absHeap (Jh w.params) mX (boot_heap w.params).life) _ _ _ _=_;rw[boot_abs];rfl
 rw[ab] at r';have t:topFrom treeTable p w N ⟨boot_heap w.params,Array.mk [],boot_drawn,boot_toks,os⟩=some sT.abs:=by
  unfold topFrom;dsimp only;rw[z1,z2,Vk,r'];show(match staticsOk (importedModules p.main.body) (boot_heap w.params) sT.abs.heap&&namesBound p sT.abs.heap&&gensDone sT.abs&&laidKept (boot_heap w.params) sT.abs.heap with|true=>_|false=>_)=_;rw[l1]
 unfold openEnds;rw[e];show(topFrom treeTable p w N _).map _=_;rw[t];exact congrArg some (Prod.ext l2 l3)
theorem aeI
  (he:opening p=plainProg p.main.scope.names) (hf:∀s,fenceModules? p s=some s) (hN:Nat.ble 600 N=true)
  (hz:∀P:Params,((boot_heap P).isNs mainGlobals,(boot_heap P).nsMap mainGlobals "__annotations__")=(true,ann))
  (h1:∀(w) (os),(ow treeTable p w mX ann N (sU w.params os) (topStub p)).map (λsT=>((staticsOk (importedModules p.main.body) (boot_heap w.params) sT.abs.heap&&namesBound p sT.abs.heap&&gensDone sT.abs&&laidKept (boot_heap w.params) sT.abs.heap),openSeen q loose (importedModules p.main.body) Xt true sT.abs))=some (true,openGood q loose))
  (h3:∀(w) (os),(ow treeTable p w mX ann N (sU w.params os) (topStub p)).map (λsT=>Yf sT.abs)=some (Ya w)) :
  LeftO p q loose Xt Yf Ya N:=Wu he hf hN hz λw os=>by
 obtain⟨sT,r,e1⟩:=acq.mp (h1 w os);have e3:=h3 w os;rw[r] at e3 ⊢;have e3:=ab1 e3;obtain⟨e1,e2⟩:_/\_:=by simpa only[Prod.mk.injEq] using e1
 show some (_,_,_)=some (true,openGood q loose,Ya w);rw[e1,<- e2,<- e3]
noncomputable def tg(s:SharedT)(a:Nat):Option Obj:=match Nat.blt a s.n with
 |true=>match s.tree.get a with
  |some o=>alive o
  |none=>none
 |false=>none
theorem aey(h:tg s a=some o):s.abs.heap.get? a=some o:=by
 unfold tg at h;cases e:Nat.blt a s.n with
 |false=>rw[e] at h;cases h
 |true=>
  rw[e] at h;dsimp only at h;cases g:s.tree.get a with
  |none=>rw[g] at h;cases h
  |some o'=>
   rw[g] at h;have cU:a<s.n:=by simpa using e
   exact(abs_get cU g).trans h
theorem Fc:∀{as:List Addr}{os:List Obj},as.map (tg s)=os.map some->as.map s.abs.heap.get? = os.map some
 |[],[],_=>rfl
 |[],_::_,h=>by cases h
 |_::_,[],h=>by cases h
 |a::as,o::os,h=>by
  rw[aas,aas] at h;injection h with h1 h2;rw[aas,aas,aey h1,Fc h2]
end HT
namespace HT
open PySem PySem.W PyProof.Rows
variable{K:Params->Frag}
theorem left_Tkm(he:opening p=plainProg p.main.scope.names)(hf:∀s,fenceModules? p s=some s)(hN:Nat.ble 600 N=true)
  (hz:∀P:Params,((boot_heap P).isNs mainGlobals,(boot_heap P).nsMap mainGlobals "__annotations__")=(true,ann))
  (h1:∀(w:World) (os),(ow treeTable p w mX ann N (sU w.params os) (topStub p)).map (λsT=>((staticsOk (importedModules p.main.body) (boot_heap w.params) sT.abs.heap&&namesBound p sT.abs.heap&&gensDone sT.abs&&laidKept (boot_heap w.params) sT.abs.heap),openSeen q loose (importedModules p.main.body) Xt true sT.abs))=some (true,openGood q loose))
  (h3:∀(w) (os),(ow treeTable p w mX ann N (sU w.params os) (topStub p)).map (λsT=>(as.map (tg sT),ts.map (tg sT)))=some (((K w.params).map (·.2)).map some,(ts.map λ_=>tabObj #[]).map some)) :
  LeftO p q loose Xt (Hook.obs (kmHook K as e ts)) (Hook.val (kmHook K as e ts)) N:=aeI he hf hN hz h1 λw os=>by
 obtain⟨sT,r,e1⟩:=acq.mp (h3 w os);obtain⟨e1,e2⟩:_/\_:=by simpa only[Prod.mk.injEq] using e1
 rw[r];show some (as.map sT.abs.heap.get?,ts.map sT.abs.heap.get?)=some ((K w.params).map λp=>some p.2,ts.map λ_=>some (tabObj #[]));rw[Fc e1,Fc e2,ac4,ac4];rfl
end HT
namespace K90
open PySem L2 L2.Ev
def tab:List (Str×Stmt):=[48,49,11,41,54,52,53,19,20,17,26,32,31,33,30,28,29,16,36,35,58,50,51,12,18,59,55,56,57,60].map (λi=>(Str.empty,top i))++[0,2,9,10,4,5,3,11,1].map (λi=>(("Changes":Str),inClass (top 25) i))++[0,19,8,7,10,22,24,21,20,11,26,13,27,25,29,28,23,3,1,2,4,5,3,12,15,6,14].map (λi=>(("Gate":Str),inClass (top 46) i))++[3,1,0].map (λi=>(("Tally":Str),inClass (top 40) i))
noncomputable def isNm:Stmt->Bool
 |.FunctionDef x ..=>!(x == "law")
 |_=>true
noncomputable def lo:List Str:=(["_wall","LinegateError","NoFit","NoChange","TooMany","NoRule","NoAnswer","NoLook","TooLate","within","rising","GREATEST_SLOT","GREATEST_VALUE","unfit","edited_in_turn","are_edits","misfit","sheet_of_values","MOST_CHANGES","MOST_EDITS","GREATEST_RANK","Changes","sheet_of","free","filled","first_fitting","in_turn","values_behind","fits","wanted_places","middle_of_gap","WORDS","MOST_TRIES","Tally","makes_tally","MOST_WIDTH","MOST_HANDS","BAD_WORDS","Gate","_law_draw","_law_settings","_law_edits","_law_spec","_law_word","_law_told","_law_way","_law_refused","_law_wanted_right","_law_right","_law_answered","_law_done"]:List String).map Str.ofString
def vw:Program:={ PySem.Challenge.pw_linegate_k90_whole_line_looked_at with main:={ (PySem.Challenge.pw_linegate_k90_whole_line_looked_at).main with body:=(PySem.Challenge.pw_linegate_k90_whole_line_looked_at).main.body.filter λs=>!isNm s } }
def Wk:Prop:=∀{YP:World->Heap->Prop}{K:Params->PySem.W.Frag}{d:DefRec},(∀(w:World) (h:Heap),YP w h->(K w.params).In h)->(∀(w:World) (h:Heap),YP w h->∀r∈jc (K w.params),h.get? r.2.1=some (PySem.W.tabObj #[]))->(∀w:World,xK (K w.params)=true)->(∀w:World,rB L (K w.params)=true)->(∀w:World,tab.map (look (K w.params))=tab.map want)->d.params.defaults=[]->d.name="law"->PySem.W.WalkO vw lo (PySem.W.XL vw []) YP (PySem.W.OpenLaw.row PySem.Challenge.rw_linegate_k90_whole_line_looked_at).toRowW d [] (λf vs=>PySem.call f vs)
end K90
namespace K90
open PySem L2 L2.Ev
open PySem PySem.W PyProof.Rows L2 L2.Ev
def xt(s:Shared):Bool:=xlAt vw [] s&&recOk (RowW.records (OpenRow.toRowW (OpenLaw.row PySem.Challenge.rw_linegate_k90_whole_line_looked_at))) s
theorem xt1(s:Shared)(e:xt s=true):XL vw [] (s.heap.nsMap mainGlobals) s.heap:=xl_of s (ag0.mp e).1
theorem rn(w:World)(os:OsState):(HT.ow treeTable PySem.Challenge.pw_linegate_k90_whole_line_looked_at w HT.mX (some (.ref 6)) 20000 (HT.sU w.params os) (topStub PySem.Challenge.pw_linegate_k90_whole_line_looked_at)).map (λsT=>((staticsOk (importedModules (PySem.Challenge.pw_linegate_k90_whole_line_looked_at).main.body) (boot_heap w.params) sT.abs.heap&&namesBound PySem.Challenge.pw_linegate_k90_whole_line_looked_at sT.abs.heap&&gensDone sT.abs&&laidKept (boot_heap w.params) sT.abs.heap),openSeen vw lo (importedModules (PySem.Challenge.pw_linegate_k90_whole_line_looked_at).main.body) xt true sT.abs))=some (true,openGood vw lo):=by kernel_rfl
theorem xt2(s:Shared)(e:xt s=true):RecFacts (RowW.records (OpenRow.toRowW (OpenLaw.row PySem.Challenge.rw_linegate_k90_whole_line_looked_at))) s.heap:=recFacts_of (ag0.mp e).2
local macro_rules | `(tactic| o_head $H)=>`(tactic| (refine PySem.W.holds_open (q:=K90.vw) (loose:=K90.lo) (N:=20000) (Xt:=K90.xt) (XP:=XL K90.vw []) (Yf:=Hook.obs $H) (Ya:=Hook.val $H) (YP:=Hook.says $H) ?hl (Hook.of $H) (Hook.keeps $H) K90.xt1 XL.keeps (by rfl) (by rfl) (by rfl) K90.xt2 (by rfl) (by assumption) (by decide +kernel) ⟨rfl,rfl,rfl,rfl,rfl,by decide +kernel⟩ ?hw ?hc;(case hl=>exact HT.left_Tkm (ann:=some (.ref 6)) (by rfl) (fun _=>rfl) (by decide) (fun _=>by kernel_rfl) K90.rn fun w os=>by kernel_rfl);(case hw=>w_witness2)))
theorem wsd:OpenLaw.wellSaid PySem.Challenge.rw_linegate_k90_whole_line_looked_at=true:=by kernel_rfl
set_option maxHeartbeats 0 in
theorem early(H:Wk):PySem.Challenge.rw_linegate_k90_whole_line_looked_at.Holds:=by
 w_on;refine holds_law wsd λags=>?_;k_head
 k_fill
 exact H (λw h Y=>PySem.W.km_in_of Y) (L2.tabs_ok λw=>by kernel_rfl) (λw=>by kernel_rfl) (λw=>by kernel_rfl) (λw=>by kernel_rfl) rfl rfl
end K90
local macro_rules | `(tactic| walk_at "va")=>`(tactic| exact ⟨rfl,by first | exact Or.inl rfl | exact Or.inr (Or.inl rfl) | exact Or.inr (Or.inr rfl),by decide,by decide⟩)
local macro_rules | `(tactic| exists $h:ident, $x, $w:ident, $e:ident) => `(tactic| (rcases $h:ident : $x:term with _ | $w:ident; (rw [$h:ident] at $e:ident; cases $e:ident); rw [$h:ident] at $e:ident))
local macro_rules | `(tactic| exists $h:ident, $x, $w:ident, $e:ident, 0) => `(tactic| (rcases $h:ident : $x:term with _ | $w:ident; (rw [$h:ident] at $e:ident; cases $e:ident)))
theorem ci{c:Prop}[Decidable c]{α:Type}{a:Option α}{y:α}(e:(if c then a else none)=some y):c/\a=some y:=by
 by_cases h:c
 .rw[if_pos h] at e;exact⟨h,e⟩
 .rw[if_neg h] at e;cases e
namespace L2
open PySem PySem.Spec
theorem S5:entryFor table "proto.unchain"=some Builtin.«proto.unchain»:=entryFor_of_tree (by kernel_rfl)
theorem Vp{α:Type}{Q:α->Shared->Prop}(hh:A.handled=some (.ref h))(he:s.heap.get? e=some oe)(hd:oe.data=.fields ve)(h2:2<ve.size)
  (hx:s.heap.get? h=some oh) (Kg:oh.data=.fields vh) (yS:vh[2]? = some .none) (ne:h≠e) (q:E (.ref e) { s with heap:=s.heap.update e (Obj.mapFields (·.setIfInBounds 2 (.ref h))) }):wpAny (model prog w) A (raiseNew (.ref e):Sem α) Q E s:=by
 unfold raiseNew;refine aa7 (wpAny_handled ?_);rw[hh];dsimp only;rw[if_pos (by simpa using ne)];refine aa7 (afp (wpAny_runValue (agm S5 ?_)));unfold Builtin.«proto.unchain»;refine aa7 (wpAny_field hx Kg yS ?_);rw[if_pos (by rfl)];refine acD ?_;refine aa7 ?_;unfold updateField;refine aa7 (wpAny_load he ?_);rw[hd];dsimp only;rw[if_pos h2];exact wpAny_update' he (wpAny_throw q)
theorem ZJ{prog:Program}{w:World}{A:Around}{E:Value->Shared->Prop}{s:Shared}{it h:Addr}{x left step:Int}{oh:Obj}{vh:Array Value}{Q:Option Value->Shared->Prop}(hh:A.handled=some (.ref h))(hx:s.heap.get? h=some oh)(Kg:oh.data=.fields vh)(yS:vh[2]? = some .none)(hit:IsRangeIter s.heap it x left step)(adN:left<=0)
  (hQ:∀h',Heap.ExtBut it s.heap h'->Q none { s with heap:=h' }):wpAny (model prog w) A (pyNext (.ref it)) Q E s:=by
 have hT:s.TypeIs (.ref it) "range_iterator":=⟨_,hit,rfl⟩
 unfold pyNext;refine aa7 (wpAny_attempt (wpAny_callSpecial?_slot hT F.slot_range_iterator_next
  (wpAny_call_entry F.slot_range_iterator_next hT F.entry_range_iterator_next ?_ (F.args_range_iterator_next_1 _))))
 show wpAny _ _ (field (.ref it) 0 >>= _) _ _ s;refine aa7 (wpAny_field hit rfl rfl ?_);refine aa7 (wpAny_field hit rfl rfl ?_);refine aa7 (wpAny_field hit rfl rfl ?_);show wpAny _ _ (if left<=0 then _ else _) _ _ s;rw[if_pos adN];refine aa7 (wpAny_rule ?_);refine aa7 ?_;refine aa7 ?_;simp only[newExc,newTuple];refine aa7 (agY ?_ (by size_fits));refine aa7 (wpAny_of_eq (by first|rfl|(simp only[firstArgMember];rfl)) ?_);refine agY ?_ (by size_fits);have hn:h≠(s.heap.push { cls:=.type "tuple",dict:=none,data:=.seq ([]:List Value).toArray }).objs.size:=acI (abM (aaT _ hx));refine Vp (by first|exact hh|(show A.in1.handled=_;exact hh)) (ab3 _ rfl) rfl (by simp<;>lia) (aaT _ (aaT _ hx)) Kg yS hn ?_;refine aa7 (wpAny_isInstance ⟨_,agE _ (ab3 _ rfl) rfl,rfl⟩ isSubtype_stop ?_);refine acD (hQ _ λb o hb e=>?_);rw[aep _ _ (afr (acI (abM (aaT _ e))))];exact aaT _ (aaT _ e)
open PySem PySem.Spec PyProof.Rows
noncomputable abbrev Key:=Sum Int Str
noncomputable def sI:Key->Value->Bool
 |.inl k,v=>Value.isInt k v
 |.inr x,v=>Value.isStrOf x v
noncomputable def TN(w:World):Key->Int
 |.inl k=>hashInt k
 |.inr x=>hashStr w x
theorem m6:∀{k} {v},sI k v=true->(∃i t,k=Sum.inl i/\v=Value.int i t)\/(∃x t,k=Sum.inr x/\v=Value.str x t)
 |.inl i,v,h=>by
  obtain⟨t,e⟩:=Value.isInt_shape h;exact .inl ⟨i,t,rfl,e⟩
 |.inr x,v,h=>by
  obtain⟨t,e⟩:=Value.isStrOf_shape h;exact .inr ⟨x,t,rfl,e⟩
theorem Xk(i:Int)(t:Tok):sI (.inl i) (.int i t)=true:=by simp[sI,Value.isInt]
theorem aa0(x:Str)(t:Tok):sI (.inr x) (.str x t)=true:=by simp[sI,Value.isStrOf]
theorem YI(a b:Int):decide ((Sum.inl a:Key)=Sum.inl b)=(a==b):=by
 by_cases e:a=b
 .subst e;simp
 .have h:¬(Sum.inl a:Key)=Sum.inl b:=λq=>e (ahh q)
  rw[abR h];exact(ado.mpr e).symm
theorem V3(a b:Str):decide ((Sum.inr a:Key)=Sum.inr b)=decide (a=b):=by
 by_cases e:a=b
 .subst e;simp
 .have h:¬(Sum.inr a:Key)=Sum.inr b:=λq=>e (Sum.inr.inj q)
  rw[abR h,abR e]
theorem VH(a:Int)(b:Str):decide ((Sum.inl a:Key)=Sum.inr b)=false:=abR (λq=>nomatch q)
theorem acz(a:Str)(b:Int):decide ((Sum.inr a:Key)=Sum.inl b)=false:=abR (λq=>nomatch q)
def gQ(prog:Program)(w:World):PySem.KeyKind prog w Key where
 is:=sI
 hash:=TN w
 inj:=λv a b ha hb=>by
  rcases m6 ha with⟨i,t,rfl,rfl⟩|⟨x,t,rfl,rfl⟩
  .rcases m6 hb with⟨j,u,rfl,e⟩|⟨y,u,rfl,e⟩
   .injection e with e1 _;rw[e1]
   .exact nomatch e
  .rcases m6 hb with⟨j,u,rfl,e⟩|⟨y,u,rfl,e⟩
   .exact nomatch e
   .injection e with e1 _;rw[e1]
 byValue:=λk v h=>by
  rcases m6 h with⟨i,t,rfl,rfl⟩|⟨x,t,rfl,rfl⟩<;>rfl
 pyHash:=λhv h=>by
  rcases m6 hv with⟨i,t,rfl,rfl⟩|⟨x,t,rfl,rfl⟩
  .exact wpAny_pyHash_int h
  .exact wpAny_pyHash_str h
 eqBool:=λhu hv h=>by
  rcases m6 hu with⟨i,t,rfl,rfl⟩|⟨x,t,rfl,rfl⟩
  .rcases m6 hv with⟨j,u,rfl,rfl⟩|⟨y,u,rfl,rfl⟩
   .rw[YI] at h;exact wpAny_eqBool_int h
   .rw[VH] at h;exact SeqAt.EqAt.int_str i t y u _ _ _ _ h
  .rcases m6 hv with⟨j,u,rfl,rfl⟩|⟨y,u,rfl,rfl⟩
   .rw[acz] at h;exact SeqAt.EqAt.str_int x t j u _ _ _ _ h
   .rw[V3] at h;exact wpAny_eqBool_str h
 «strs»:=λk x t v h=>by
  rcases m6 h with⟨i,u,rfl,e⟩|⟨y,u,rfl,e⟩
  .exact nomatch e
  .injection e with e1 _;subst e1;cases v<;>rfl
theorem aaI(prog:Program)(w:World)(i:Int)(t:Tok):(gQ prog w).is (.inl i) (.int i t)=true:=Xk i t
theorem YS(prog:Program)(w:World)(x:Str)(t:Tok):(gQ prog w).is (.inr x) (.str x t)=true:=aa0 x t
inductive V where
 |aA|bl (b:Bool)|int (i:Int)|str (x:Str)|jI (b:Array UInt8)|sR (b:UInt64)|ref (a:Addr)|ty (n:String)
 deriving DecidableEq
def RelV:V->Value->Prop
 |.aA,u=>u=Value.none
 |.bl b,u=>u=Value.bool b
 |.int i,u=>∃t,u=Value.int i t
 |.str x,u=>∃t,u=Value.str x t
 |.jI b,u=>∃t,u=Value.bytes b t
 |.sR b,u=>∃t,u=Value.float b t
 |.ref a,u=>u=Value.ref a
 |.ty n,u=>u=Value.type n
noncomputable abbrev aU:List V->List Value->Prop:=Paired RelV
theorem aU.length(r:aU xs us):xs.length=us.length:=Paired.length r
theorem aU.get:∀{xs} {us}{i:Nat} {x},aU xs us->xs[i]? = some x->∃u,us[i]? = some u/\RelV x u
 |_,_,_,_,.nil,e=>by simp at e
 |_,_,0,_,.cons r _,e=>by simp at e;subst e;exact⟨_,rfl,r⟩
 |_,_,i+1,x,.cons _ t,e=>by
  obtain⟨u,h1,h2⟩:=aU.get t (by simpa using e);exact⟨u,by simpa using h1,h2⟩
theorem aU.append:∀{xs ys} {us ws},aU xs us->aU ys ws->aU (xs++ys) (us++ws)
 |_,_,_,_,.nil,s=>s
 |_,_,_,_,.cons r t,s=>.cons r (aU.append t s)
theorem aU.take:∀{xs} {us} (n),aU xs us->aU (xs.take n) (us.take n)
 |_,_,0,_=>.nil
 |_,_,_+1,.nil=>.nil
 |_,_,n+1,.cons r t=>.cons r (aU.take n t)
theorem aU.drop:∀{xs} {us} (n),aU xs us->aU (xs.drop n) (us.drop n)
 |_,_,0,r=>r
 |_,_,_+1,.nil=>.nil
 |_,_,n+1,.cons _ t=>aU.drop n t
def g8:Option V->Option Value->Prop
 |some v,some u=>RelV v u
 |none,none=>True
 |_,_=>False
def KV{κ:Type}:List (κ×V)->List (κ×Value)->Prop:=Paired λ(p:κ×V) (q:κ×Value)=>p.1=q.1/\RelV p.2 q.2
noncomputable def kV:Key->V
 |.inl i=>.int i
 |.inr x=>.str x
def n5(h:Heap)(a:Addr)(items:Array Value):Prop:=∃o,h.get? a=some o/\o.cls=.type "tuple"/\o.dict=none/\∃n,o.data=.seq items n
theorem n5.isTup(x:n5 h a items):IsTup h a items:=let⟨o,e,c,_,d⟩:=x;⟨o,e,c,d⟩
theorem n5.lt(x:n5 h a items):a<h.objs.size:=let⟨_,e,_⟩:=x;abM e
theorem n5.new(h:Heap)(items:Array Value):n5 (h.push { cls:=.type "tuple",data:=.seq items }) h.objs.size items:=⟨_,ab3 _ rfl,rfl,rfl,_,rfl⟩
inductive HO where
 |lst (xs:List V)
 |tup (xs:List V)
 |dK (ak:List (Key×V))|dT (ak:List (List Key×V))
 |set (S:Int->Bool) (n:Nat)
 |ins (C dx:Addr) (fs:List (Str×V))
 |own (x:Addr)
 |xd (fs:List (Str×V))
 |met (f x:Addr)
 |b_ (lo hi:Int)
 |eU (o:Obj) (u:HO)
 |qd (ps:Array Value)
 |iw (q:Str) (pos:Pos)|jb (q:Str)
 |ext (φ:Heap->Prop)
noncomputable abbrev Hp:=Addr->Option HO
inductive lH where
 |tup (xs:List V)|vQ (o:Obj) (xs:List V)|iw (q:Str) (pos:Pos)|jb (q:Str)
noncomputable def lH.ho:lH->HO
 |.tup xs=>.tup xs
 |.vQ o xs=>.eU o (.tup xs)
 |.iw q p=>.iw q p
 |.jb q=>.jb q
noncomputable def lH.tp:lH->Option (List V)
 |.tup xs=>some xs
 |.vQ _ xs=>some xs
 |_=>none
def Tk(H:Hp)(b:Addr)(xs:List V):Prop:=∃t:lH,t.tp=some xs/\H b=some t.ho
noncomputable def upd(H:Hp)(a:Addr)(o:HO):Hp:=λb=>if b=a then some o else H b
theorem cB:upd H a o a=some o:=by unfold upd;rw[if_pos rfl]
theorem aP(h:b≠a):upd H a o b=H b:=by unfold upd;rw[if_neg h]
theorem XQ{H:Hp}(h:H a=some o)(h':H b=some u)(d:o≠u):a≠b:=by
 intro e;subst e;rw[h] at h';exact d (ab1 h')
theorem cV{H:Hp}(h:H a=some o)(h':H b=none):a≠b:=by
 intro e;subst e;rw[h] at h';cases h'
section
variable(P:Program)(w:World)
def di(H:Hp)(h:Heap)(a:Addr):HO->Prop
 |.lst xs=>xs.length<=sizeLine/\∃(au:List Value) (n:Nat),aU xs au/\h.get? a=some { cls:=.type "list",data:=.seq au.toArray n }
 |.tup xs=>xs.length<=sizeLine/\∃au:List Value,aU xs au/\n5 h a au.toArray
 |.dK ak=>ak.length<=sizeLine/\(a==sysModules)=false/\∃vs,KV ak vs/\h.DictOf (gQ P w) a vs
 |.dT ak=>ak.length<=sizeLine/\(a==sysModules)=false/\∃xs:List (List Key×Addr×Value),
   Paired (λ(p:List Key×V) (q:List Key×Addr×Value)=>p.1=q.1/\Tk H q.2.1 (p.1.map kV)/\RelV p.2 q.2.2) ak xs/\
   ∃o es ep,h.get? a=some o/\o.ExactDict/\o.data=.dict es ep/\es.toList=xs.map (entryOfKey (tupleKind (gQ P w)))/\(xs.map (·.1)).Nodup
 |.set S n=>h.SetOf (intKind P w) a S n
 |.ins C dx fs=>H dx=some (.own a)/\fs.length<=1000/\dx≠a/\h.get? a=some (PySem.W.instObj C dx)/\
   ∃mA,h.Ns1 dx mA/\(∀f,g8 (fs.lookup f) (mA f))/\PySem.Within mA (fs.map (·.1))
 |.own _=>∃o,h.get? a=some o
 |.xd fs=>∃mA,h.Ns1 a mA/\∀f,g8 (fs.lookup f) (mA f)
 |.b_ lo hi=>∃t u v,h.get? a=some { cls:=.type "range",data:=.fields #[.int lo t,.int hi u,.int 1 v] }
 |.eU o u=>h.get? a=some o/\di H h a u
 |.qd ps=>h.get? a=some { cls:=.none,data:=.fields ps }
 |.iw q pos=>∃ps:Array Value,h.get? a=some { cls:=.none,data:=.fields ps }/\(ps=#[]\/∃c,ps=#[rawInt pos.line,rawInt pos.col,.ref c]/\H c=some (.jb q))
 |.jb q=>h.CodeRec (.ref a) q
 |.met f x=>h.get? a=some (PySem.W.methodObj (.ref f) (.ref x))
 |.ext φ=>φ h/\(∃o,h.get? a=some o)/\∀h1 h2:Heap,φ h1->(∀o,h1.get? a=some o->h2.get? a=some o)->φ h2
def cM(H:Hp)(h:Heap):Prop:=∀a o,H a=some o->di P w H h a o
end
theorem di.lt(x:di P w H h a o):a<h.objs.size:=by
 cases o with
 |lst xs=>obtain⟨_,_,_,_,e⟩:=x;exact abM e
 |tup xs=>obtain⟨_,_,_,p⟩:=x;exact p.lt
 |dK ak=>obtain⟨_,_,_,_,o,_,_,e,_⟩:=x;exact abM e
 |dT ak=>obtain⟨_,_,_,_,o,_,_,e,_⟩:=x;exact abM e
 |set S n=>obtain⟨o,_,_,_,e,_⟩:=x;exact abM e
 |ins C dx fs=>obtain⟨_,_,_,e,_⟩:=x;exact abM e
 |own y=>obtain⟨_,e⟩:=x;exact abM e
 |xd fs=>obtain⟨_,⟨_,_,_,e,_⟩,_⟩:=x;exact abM e
 |b_ lo hi=>obtain⟨_,_,_,e⟩:=x;exact abM e
 |eU ob u=>obtain⟨e,_⟩:=x;exact abM e
 |qd ps=>exact abM (show h.get? a=some _ from x)
 |iw q pos=>obtain⟨_,e,_⟩:=x;exact abM e
 |jb q=>obtain⟨_,_,_,_,e,g,_⟩:=x;cases e;exact abM g
 |met f y=>exact abM (show h.get? a=some _ from x)
 |ext φ=>obtain⟨_,⟨_,e⟩,_⟩:=x;exact abM e
theorem Paired.Cb:∀{PY} {LF},Paired F PY LF->(∀a b,F a b->G a b)->Paired G PY LF
 |_,_,.nil,_=>.nil
 |_,_,.cons r t,f=>.cons (f _ _ r) (Paired.Cb t f)
theorem di.gx(x:di P w H h a o)(k:∀b u,(b=a\/H b=some (.own a))->h.get? b=some u->h'.get? b=some u)
  (ho:∀b,H b=some (.own a)->H' b=some (.own a)) (ht:∀b (t:lH),H b=some t.ho->H' b=some t.ho):di P w H' h' a o:=by
 induction o with
 |lst xs=>obtain⟨z,au,n,r,e⟩:=x;exact⟨z,au,n,r,k _ _ (.inl rfl) e⟩
 |tup xs=>obtain⟨z,au,r,ob,e,c⟩:=x;exact⟨z,au,r,ob,k _ _ (.inl rfl) e,c⟩
 |dK ak=>obtain⟨z,y,vs,r,ob,es,ep,e,c⟩:=x;exact⟨z,y,vs,r,ob,es,ep,k _ _ (.inl rfl) e,c⟩
 |dT ak=>
  obtain⟨z,y,xs,r,ob,es,ep,e,c⟩:=x;exact⟨z,y,xs,Paired.Cb r λp q z=>⟨z.1,let⟨t,e,g⟩:=z.2.1;⟨t,e,ht _ t g⟩,z.2.2⟩,ob,es,ep,k _ _ (.inl rfl) e,c⟩
 |set S n=>obtain⟨ob,es,ep,t,e,c⟩:=x;exact⟨ob,es,ep,t,k _ _ (.inl rfl) e,c⟩
 |ins C dx fs=>
  obtain⟨d,z,ne,e,mA,⟨od,es,ep,e2,c⟩,r⟩:=x;exact⟨ho _ d,z,ne,k _ _ (.inl rfl) e,mA,⟨od,es,ep,k _ _ (.inr d) e2,c⟩,r⟩
 |own y=>obtain⟨ob,e⟩:=x;exact⟨ob,k _ _ (.inl rfl) e⟩
 |xd fs=>obtain⟨mA,⟨od,es,ep,e,c⟩,r⟩:=x;exact⟨mA,⟨od,es,ep,k _ _ (.inl rfl) e,c⟩,r⟩
 |b_ lo hi=>obtain⟨t,u,v,e⟩:=x;exact⟨t,u,v,k _ _ (.inl rfl) e⟩
 |eU ob u ih=>obtain⟨e,q⟩:=x;exact⟨k _ _ (.inl rfl) e,ih q⟩
 |iw q pos=>obtain⟨ps,e,g⟩:=x;exact⟨ps,k _ _ (.inl rfl) e,g.imp id λ⟨c,e1,e2⟩=>⟨c,e1,ht c (.jb q) e2⟩⟩
 |jb q=>obtain⟨_,o,vs,t,e,g,r⟩:=x;cases e;exact⟨_,o,vs,t,rfl,k _ _ (.inl rfl) g,r⟩
 |qd ps=>
  have e:=x;exact k a _ (.inl rfl) e
 |met f y=>
  have e:=x;exact k a _ (.inl rfl) e
 |ext φ=>obtain⟨p,⟨o,e⟩,st⟩:=x;exact⟨st _ _ p λo q=>k _ _ (.inl rfl) q,⟨o,k _ _ (.inl rfl) e⟩,st⟩
theorem cM.lt(x:cM P w H h)(e:H a=some o):a<h.objs.size:=(x a o e).lt
theorem cM.fresh(x:cM P w H h)(e:h.objs.size<=a):H a=none:=by
 cases q:H a with
 |none=>rfl
 |some u=>exact absurd (acU (x.lt q) e) (aeM _)
theorem cM.kept(x:cM P w H h)(k:∀b u,h.get? b=some u->h'.get? b=some u):cM P w H h':=λa o e=>
 (x a o e).gx (λb u _ q=>k b u q) (λ_ q=>q) λ_ _ q=>q
theorem cM.laid(x:cM P w H h)(k:∀b u,h.get? b=some u->h'.get? b=some u)(hp:h.objs.size<=a)(new:di P w (upd H a o) h' a o):cM P w (upd H a o) h':=λb u e=>by
 have hn:=x.fresh hp
 by_cases hb:b=a
 .subst hb;rw[cB] at e;cases e;exact new
 .rw[aP hb] at e;exact(x b u e).gx (λc v _ q=>k c v q) (λc q=>by rw[aP (cV q hn)];exact q) λc xs q=>by rw[aP (cV q hn)];exact q
def Rd(H:Hp)(a:Addr)(u:HO):Prop:=H a=some u\/∃o,H a=some (.eU o u)
theorem Rd.ok(r:Rd H a u)(x:cM P w H h):di P w H h a u:=by
 rcases r with r|⟨o,r⟩
 .exact x a u r
 .obtain⟨_,q⟩:=x a _ r;exact q
def yc:Option HO->Prop
 |some (.lst _)=>True
 |some (.dK _)=>True
 |some (.dT _)=>True
 |some (.set _ _)=>True
 |some (.ins _ _ _)=>True
 |some (.ext _)=>True
 |_=>False
theorem cM.write(ok:cM P w H h)(mu:yc (H x))(he:e=x\/H e=some (.own x))(k:∀b u,b≠e->h.get? b=some u->h'.get? b=some u)(vg:∃u,h'.get? e=some u)
  (new:di P w (upd H x o') h' x o'):cM P w (upd H x o') h':=λb u q=>by
 have K0:∀c y,H c=some (.own y)->c≠x:=λc y r z=>by subst z;rw[r] at mu;exact mu
 have Zp:∀c (t:lH),H c=some t.ho->c≠x:=λc t r z=>by subst z;rw[r] at mu;cases t<;>exact mu
 by_cases hb:b=x
 .subst hb;rw[cB] at q;cases q;exact new
 .rw[aP hb] at q
  by_cases rm:b=e
  .have q':H b=some (.own x):=by
    rcases he with z|z
    .exact absurd (rm.trans z) hb
    .rw[rm];exact z
   rw[q] at q';cases q';obtain⟨v,hv⟩:=vg;exact⟨v,by rw[rm];exact hv⟩
  .refine(ok b u q).gx (λc v hc r=>k c v ?_ r) (λc r=>by rw[aP (K0 c b r)];exact r) λc xs r=>by rw[aP (Zp c xs r)];exact r
   rcases hc with rfl|hc
   .exact rm
   .rintro rfl
    rcases he with z|z
    .exact K0 c b hc z
    .rw[hc] at z;cases z;exact hb rfl
structure Un(fs ex:List Addr)(H H':Hp)(h h':Heap):Prop where
 keep:∀b o,h.get? b=some o->H b=none->b∉fs->b∉ex->h'.get? b=some o
 slot:∀b o,h.get? b=some o->H b=none->b∈fs->b∉ex->∃sl,h'.get? b=some { o with slots:=sl }
 free:∀b o,h.get? b=some o->H b=none->b∉ex->H' b=none
 there:∀b o,h.get? b=some o->b∉ex->∃o',h'.get? b=some o'
 jl:∀b (t:lH),H b=some t.ho->H' b=some t.ho
 jo:∀b o u,H b=some (.eU o u)->H' b=some (.eU o u)
 ko:∀b ps,H b=some (.qd ps)->∃more,H' b=some (.qd (ps++more))
theorem Un.any(u:Un fs ex H H1 h h1)(q:h.get? b=some ob)(n:H b=none)(hx:b∉ex):∃sl,h1.get? b=some { ob with slots:=sl }:=by
 by_cases hb:b∈fs
 .exact u.slot b ob q n hb hx
 .exact⟨ob.slots,u.keep b ob q n hb hx⟩
theorem Un.kept(k:∀b u,h.get? b=some u->h'.get? b=some u):Un fs ex H H h h':=
 ⟨λb ob q _ _ _=>k b ob q,λb ob q _ _ _=>⟨ob.slots,k b ob q⟩,λ_ _ _ n _=>n,λb ob q _=>⟨ob,k b ob q⟩,λ_ _ q=>q,λ_ _ _ q=>q,λ_ ps q=>⟨#[],by rw[q];simp⟩⟩
theorem Un.refl:Un fs ex H H h h:=Un.kept λ_ _ q=>q
theorem Un.laid(k:∀b u,h.get? b=some u->h'.get? b=some u)(hp:h.objs.size<=a)(hn:H a=none):Un fs ex H (upd H a o) h h' where
 keep:=λb u q _ _ _=>k b u q
 slot:=λb u q _ _ _=>⟨u.slots,k b u q⟩
 free:=λb u q n _=>by rw[aP (acI (acU (abM q) hp))];exact n
 there:=λb u q _=>⟨u,k b u q⟩
 jl:=λb xs q=>by rw[aP (cV q hn)];exact q
 jo:=λb u xs q=>by rw[aP (cV q hn)];exact q
 ko:=λb ps q=>⟨#[],by rw[aP (cV q hn),q];simp⟩
theorem Un.write(mu:yc (H x))(he:e=x\/H e=some (.own x))(k:∀b u,b≠e->h.get? b=some u->h'.get? b=some u)(vg:∃u,h'.get? e=some u):Un fs ex H (upd H x o) h h':=by
 have hx:∀b,H b=none->b≠x:=λb n z=>by subst z;rw[n] at mu;exact mu
 have hb:∀b,H b=none->b≠e:=λb n z=>by
  subst z;rcases he with r|r
  .exact hx b n r
  .rw[n] at r;cases r
 have hm:∀b u,H b=some u->¬yc (some u)->b≠x:=λb u q nm z=>by subst z;rw[q] at mu;exact nm mu
 refine⟨λb u q n _ _=>k b u (hb b n) q,λb u q n _ _=>⟨u.slots,k b u (hb b n) q⟩,λb u q n _=>by rw[aP (hx b n)];exact n,λb u q _=>?_,
  λb xs q=>by rw[aP (hm b _ q (by cases xs<;>exact λz=>z))];exact q,λb u xs q=>by rw[aP (hm b _ q λz=>z)];exact q,λb ps q=>⟨#[],by rw[aP (hm b _ q λz=>z),q];simp⟩⟩
 by_cases rm:b=e
 .subst rm;exact vg
 .exact⟨u,k b u rm q⟩
noncomputable def A4(h:Heap)(H:Hp):List Addr:=(List.range h.objs.size).filter λa=>(H a).isSome
def qP(h:Heap)(H:Hp):Heap:=PySem.W.hideAll h (A4 h H)
theorem abW(h:Heap)(H:Hp):(qP h H).objs.size=h.objs.size:=PySem.W.hideAll_size _ _
theorem JK(e:h.get? b=some o)(n:H b=none):(qP h H).get? b=some o:=
 PySem.W.hideAll_get _ e λhm=>by
  have q:=(acL.mp hm).2;rw[n] at q;simp at q
theorem Ww(e:(qP h H).get? b=some o):h.get? b=some o/\H b=none:=by
 have e':=PySem.W.of_hideAll (A4 h H) e;refine⟨e',?_⟩;cases q:H b with
 |none=>rfl
 |some x=>
  have hm:b∈A4 h H:=acL.mpr ⟨ahm.mpr (abM e'),by simp[q]⟩;have z:(qP h H).get? b=none:=PySem.W.hideAll_none (A4 h H) hm;rw[z] at e;cases e
structure Mod(K:PySem.W.Frag)(mg:Str->Option Value)(base:Heap):Prop where
 s_:K.In base
 glob:base.Ns mainGlobals mg
 blt:∃mb,base.Ns builtinsNs mb/\∀x:Str,x≠"__name__"->mb x=bootBuiltins x
 nolimit:base.NoLimit
 bmn:∃bm ob,mg "__builtins__"=some (.ref bm)/\bm≠builtinsNs/\base.get? bm=some ob/\ob.cls=.type "module"/\ob.dict=some builtinsNs/\ob.data=.plain
structure Cx where
 prog:Program
 w:World
 K:PySem.W.Frag
 mg:Str->Option Value
 base:Heap
 A:Around
 N:List Str
 cG:Shared
 uh:Hp
 env:Env
 outer:List Env
 stack:List Env
 ex:List Addr
 fn:Str->Bool
 calm:Bool
 pn:List (Addr×Obj)
 xe:Value->Shared->Prop
abbrev Y1{α:Type}(X:Cx)(A:Around)(t:Sem α):=wpAny (model X.prog X.w) A t
abbrev Y2(X:Cx)(a:Expr):Prop:=starEach [a] X.env=[(false,eval a X.env)]
abbrev v6(X:Cx)(x:Str):Prop:=X.fn x=true\/X.env.scope.names.lookup x=some .local
noncomputable def aY(l:List Env):List Addr:=l.filterMap (·.frame)
abbrev Cx.fs(X:Cx):List Addr:=aY X.outer
def HC(sc:Scope)(x:Str):Prop:=sc.names.lookup x=some .local\/sc.names.lookup x=some .cell\/sc.names.lookup x=some .free
def Loc(sc:Scope)(x:Str):Prop:=sc.names.lookup x=some .local\/sc.names.lookup x=some .cell
def Look(env:Env)(h:Heap)(m:Str->Option Value)(x:Str)(u:Value):Prop:=
 (env.kindOf x=some .local/\m x=some u)\/((env.kindOf x=some .cell\/env.kindOf x=some .free)/\∃c,env.cells.lookup x=some c/\h.IsCell c (some u))
structure Cx.Ok(X:Cx):Prop where
 mod:Mod X.K X.mg X.base
 kind:X.env.scope.kind=.function
 glob:X.env.globals=mainGlobals
 blt:X.env.builtins=builtinsNs
 above:X.cG.heap.objs.size<=X.env.locals
 inj:∀x y c,X.env.cells.lookup x=some c->X.env.cells.lookup y=some c->x=y
 has:∀x,(X.env.kindOf x=some .cell\/X.env.kindOf x=some .free)->∃c,X.env.cells.lookup x=some c
 oO:∀x c,X.fn x=true->X.env.cells.lookup x=some c->X.cG.heap.objs.size<=c
 hd:X.calm=true->X.A.handled=none
 frames:X.A.frames=some X.stack
 pQ:X.stack=X.outer\/(X.stack=X.env::X.outer/\X.env.frame=some X.env.locals)
 rR:∀b∈X.ex,b≠X.env.locals/\∀x c,X.env.cells.lookup x=some c->c≠b
 bs:∀b o,X.base.get? b=some o->X.cG.heap.get? b=some o/\X.uh b=none
 i_:X.base.objs.size<=X.cG.heap.objs.size
 nZ:∀b o,X.base.get? b=some o->b∉X.ex
 n6:∀b∈X.ex,b∉X.fs
 iZ:X.cG.heap.FunFrames X.base X.outer
 lO:∀b∈X.fs,X.uh b=none
def rX(A:Around)(H:Hp):Prop:=A.handled=none\/∃(a:Addr) (ob:Obj) (u:HO) (vs:Array Value),A.handled=some (.ref a)/\H a=some (.eU ob u)/\ob.data=.fields vs/\vs[2]? = some .none
theorem rX.mono(h:rX A H)(f:∀b o u,H b=some (.eU o u)->H' b=some (.eU o u)):rX A H':=h.elim .inl λ⟨a,ob,u,vs,h1,h2,h3⟩=>.inr ⟨a,ob,u,vs,h1,f _ _ _ h2,h3⟩
structure Hq(K:PySem.W.Frag)(A:Around)(H:Hp):Prop where
 hd:rX A H
 ok:xK K=true
 lm:∀r∈jc K,H r.2.1=some (.iw r.2.2.1 r.2.2.2)
theorem Hq.mono{K:PySem.W.Frag}(h:Hq K A H)(f:∀b o u,H b=some (.eU o u)->H' b=some (.eU o u))(g:∀b (t:lH),H b=some t.ho->H' b=some t.ho):Hq K A H':=
 ⟨h.hd.mono f,h.ok,λr m=>g _ (.iw _ _) (h.lm r m)⟩
structure Inv(X:Cx)(af:List (Addr×Obj))(σ:List (Option V))(H:Hp)(s:Shared):Prop where
 ok:X.Ok
 os:s.os=X.cG.os
 bare:AllBare s.gens
 base:Un X.fs X.ex X.uh H X.cG.heap s.heap
 loc:∃m,s.heap.Ns X.env.locals m/\∀(i:Nat) (x) (v),X.N[i]? = some x->σ[i]? = some (some v)->HC X.env.scope x->∃u,RelV v u/\Look X.env s.heap m x u
 cell:∀x c,X.env.cells.lookup x=some c->∃v,s.heap.IsCell c v
 free:H X.env.locals=none
 gS:∀x c,X.env.cells.lookup x=some c->H c=none
 pin:∀p∈X.pn++af,s.heap.get? p.1=some p.2/\H p.1=none/\p.1≠X.env.locals/\p.1∉X.fs/\∀v,p.2.data≠.cell v
 aE:cM X.prog X.w H s.heap
 len:σ.length=X.N.length
 hq:Hq X.K X.A H
section
variable{X:Cx}
theorem Cx.Ok.UU(ok:X.Ok)(e:X.base.get? b=some o):b∉X.fs:=λhb=>by
 have:=(ok.iZ.mem hb).1;rw[e] at this;cases this
theorem Inv.bs(I:Inv X af σ H s):∀b o,X.base.get? b=some o->s.heap.get? b=some o/\H b=none:=λb o e=>
 ⟨I.base.keep b o (I.ok.bs b o e).1 (I.ok.bs b o e).2 (I.ok.UU e) (I.ok.nZ b o e),I.base.free b o (I.ok.bs b o e).1 (I.ok.bs b o e).2 (I.ok.nZ b o e)⟩
theorem Inv.bk(I:Inv X af σ H s):∀b o,X.base.get? b=some o->s.heap.get? b=some o:=λb o e=>(I.bs b o e).1
theorem Inv.mod(I:Inv X af σ H s):Mod X.K X.mg X.base:=I.ok.mod
theorem Inv.c8(I:Inv X af σ H s):X.K.In s.heap:=I.ok.mod.s_.keeps I.bk
theorem Inv.lt(I:Inv X af σ H s):X.env.locals<s.heap.objs.size:=let⟨_,hn,_⟩:=I.loc;hn.lt
theorem Inv.sz(I:Inv X af σ H s):X.cG.heap.objs.size<=s.heap.objs.size:=adE I.ok.above (afk I.lt)
theorem Inv.LN(I:Inv X af σ H s)(h:s.heap.objs.size<=a):a∉X.fs:=λhb=>by
 obtain⟨_,o,ho,_⟩:=I.ok.iZ.mem hb;exact absurd (acU (abM ho) (adE I.sz h)) (aeM _)
theorem Inv.jV(I:Inv X af σ H s):∀x c,X.env.cells.lookup x=some c->c≠X.env.locals:=λx c e z=>by
 obtain⟨v,o,ho,hd⟩:=I.cell x c e;obtain⟨m,⟨o',es,ep,lA,DX,_⟩,_⟩:=I.loc;rw[z,lA] at ho;cases ho;rw[DX] at hd;cases hd
theorem Inv.iZ(I:Inv X af σ H s):s.heap.FunFrames X.base X.outer:=by
 have all:∀(l:List Env),(∀b∈aY l,b∈X.fs)->X.cG.heap.FunFrames X.base l->s.heap.FunFrames X.base l:=by
  intro l
  induction l with
  |nil=>intro _ _;trivial
  |cons env r ih=>
   intro hs hl;obtain⟨hk,⟨L,o,hf,hn,ho,hd⟩,hr⟩:=hl;have hL:=hs L (by unfold aY;rw[aen,hf];exact aar);obtain⟨sl,e⟩:=I.base.slot L o ho (I.ok.lO L hL) hL λz=>I.ok.n6 L z hL
   exact⟨hk,⟨L,_,hf,hn,e,hd⟩,ih (λb hb=>hs b (by unfold aY;rw[aen,hf];exact aaa _ hb)) hr⟩
 exact all X.outer (λ_ hb=>hb) I.ok.iZ
theorem Inv.stack(I:Inv X af σ H s):s.heap.FunFrames X.base X.stack:=by
 rcases I.ok.pQ with e|⟨e,hf⟩
 .rw[e];exact I.iZ
 .rw[e];obtain⟨m,hn,_⟩:=I.loc;refine .cons (by rw[I.ok.kind];decide) hf hn ?_ I.iZ;exact ag1 (adE I.ok.i_ I.ok.above)
theorem Inv.Bj(I:Inv X af σ H s):∀b∈aY X.stack,b∈X.env.locals::X.fs:=λb hb=>by
 rcases I.ok.pQ with e|⟨e,hf⟩
 .rw[e] at hb;exact aaa _ hb
 .rw[e] at hb;unfold aY at hb;rw[aen,hf] at hb;exact hb
theorem Inv.vR(I:Inv X af σ H s):∀b∈aY X.stack,H b=none:=λb hb=>by
 rcases abb.mp (I.Bj b hb) with e|hb
 .rw[e];exact I.free
 .obtain⟨_,o,ho,_⟩:=I.ok.iZ.mem hb;exact I.base.free b o ho (I.ok.lO b hb) λz=>I.ok.n6 b z hb
theorem Inv.step{ch:List Addr}(I:Inv X af σ H s)
  (mZ:∀b∈ch,(b∈X.ex\/X.cG.heap.objs.size<=b)/\b≠X.env.locals/\(∀x c,X.env.cells.lookup x=some c->c≠b)/\∀p∈X.pn++af,p.1≠b)
  (keep:∀b o,b≠X.env.locals->b∉X.fs->b∉ch->s.heap.get? b=some o->H b=none->h'.get? b=some o)
  (slot:∀b o,b≠X.env.locals->b∈X.fs->b∉ch->s.heap.get? b=some o->H b=none->∃sl,h'.get? b=some { o with slots:=sl }) (free:∀b o,b∉ch->s.heap.get? b=some o->H b=none->H' b=none)
  (there:∀b o,b∉ch->s.heap.get? b=some o->∃o',h'.get? b=some o')
  (jl:∀b (t:lH),H b=some t.ho->H' b=some t.ho) (jo:∀b o u,H b=some (.eU o u)->H' b=some (.eU o u)) (ko:∀b ps,H b=some (.qd ps)->∃more,H' b=some (.qd (ps++more)))
  (ns:∀m,s.heap.Ns X.env.locals m->h'.Ns X.env.locals m) (aE:cM X.prog X.w H' h') (hg:AllBare g') :
  Inv X af σ H' { s with heap:=h',gens:=g',drawn:=d',toks:=t' }:=by
 have B7:∀b o,X.cG.heap.get? b=some o->b≠X.env.locals:=λb o e=>acI (acU (abM e) I.ok.above)
 have AI:∀b o,X.cG.heap.get? b=some o->b∉X.ex->b∉ch:=λb o e hx hb=>by
  rcases(mZ b hb).1 with z|z
  .exact hx z
  .exact absurd (acU (abM e) z) (aeM _)
 have cellK:∀x c,X.env.cells.lookup x=some c->∀v,s.heap.IsCell c v->h'.IsCell c v:=λx c e v ⟨o,ho,hd⟩=>by
  have lN:c∉ch:=λz=>(mZ c z).2.2.1 x c e rfl
  by_cases hc:c∈X.fs
  .obtain⟨sl,q⟩:=slot c o (I.jV x c e) hc lN ho (I.gS x c e);exact⟨_,q,hd⟩
  .exact⟨o,keep c o (I.jV x c e) hc lN ho (I.gS x c e),hd⟩
 refine⟨I.ok,I.os,hg,⟨λb o e n hb hx=>?_,λb o e n hb hx=>?_,λb o e n hx=>?_,λb o e hx=>?_,λb xs e=>jl b xs (I.base.jl b xs e),λb o xs e=>jo b o xs (I.base.jo b o xs e),λb ps e=>?_⟩,?_,λx c e=>?_,?_,λx c e=>?_,λp hp=>?_,aE,I.len,I.hq.mono jo jl⟩
 .exact keep b o (B7 b o e) hb (AI b o e hx) (I.base.keep b o e n hb hx) (I.base.free b o e n hx)
 .exists 75;obtain⟨qB,e2⟩:=slot b _ (B7 b o e) hb (AI b o e hx) e1 (I.base.free b o e n hx);exact⟨qB,e2⟩
 .exists 67;exact free b o' (AI b o e hx) e1 (I.base.free b o e n hx)
 .exists 67;exact there b o' (AI b o e hx) e1
 .obtain⟨m1,e1⟩:=I.base.ko b ps e;obtain⟨m2,e2⟩:=ko b _ e1;exact⟨m1++m2,by rw[e2,Array.append_assoc]⟩
 .obtain⟨m,hn,hl⟩:=I.loc;refine⟨m,ns m hn,λi x v e1 e2 e3=>?_⟩;obtain⟨u,r,l⟩:=hl i x v e1 e2 e3;refine⟨u,r,?_⟩;rcases l with l|⟨k,c,e,z⟩
  .exact .inl l
  .exact .inr ⟨k,c,e,cellK x c e _ z⟩
 .obtain⟨v,z⟩:=I.cell x c e;exact⟨v,cellK x c e v z⟩
 .obtain⟨m,⟨o,_,_,ho,_⟩,_⟩:=I.loc;exact free _ o (λz=>(mZ _ z).2.1 rfl) ho I.free
 .obtain⟨v,o,ho,hd⟩:=I.cell x c e;exact free c o (λz=>(mZ c z).2.2.1 x c e rfl) ho (I.gS x c e)
 .exists 87;have lN:p.1∉ch:=λz=>(mZ p.1 z).2.2.2 p hp rfl
  exact⟨keep p.1 p.2 ne nf lN e n,free p.1 p.2 lN e n,ne,nf,d⟩
theorem Inv.un(I:Inv X af σ H s)(u:Un X.fs [] H H' s.heap h')(aE:cM X.prog X.w H' h'):Inv X af σ H' { s with heap:=h',toks:=t' }:=by
 obtain⟨m,⟨o,es,ep,ho,r⟩,_⟩:=id I.loc;obtain⟨sl,hL⟩:=u.any ho I.free (by simp);exact I.step (g':=s.gens) (d':=s.drawn) (ch:=[]) (λ_ z=>nomatch z) (λb o _ hb _ e n=>u.keep b o e n hb (by simp)) (λb o _ hb _ e n=>u.slot b o e n hb (by simp)) (λb o _ e n=>u.free b o e n (by simp)) (λb o _ e=>u.there b o e (by simp)) u.jl u.jo u.ko (λm' hm=>by
  obtain⟨o',d8,yH,lA,r'⟩:=hm;rw[ho] at lA;cases lA;exact⟨_,d8,yH,hL,r'⟩) aE I.bare
theorem Inv.call{ch:List Addr}(I:Inv X af σ H s)(u:Un (aY X.stack) ch H H' s.heap h')(aE:cM X.prog X.w H' h')(hg:AllBare g')
  (mZ:∀b∈ch,(b∈X.ex\/X.cG.heap.objs.size<=b)/\b≠X.env.locals/\(∀x c,X.env.cells.lookup x=some c->c≠b)/\∀p∈X.pn++af,p.1≠b) :
  Inv X af σ H' { s with heap:=h',gens:=g',drawn:=d',toks:=t' }:=by
 obtain⟨m,⟨o,es,ep,ho,r⟩,_⟩:=id I.loc;obtain⟨sl,hL⟩:=u.any ho I.free λz=>(mZ _ z).2.1 rfl
 exact I.step (ch:=ch) mZ (λb o hL hb hc e n=>u.keep b o e n (λz=>(abb.mp (I.Bj b z)).elim hL hb) hc) (λb o _ _ hc e n=>u.any e n hc) (λb o hc e n=>u.free b o e n hc) (λb o hc e=>u.there b o e hc) u.jl u.jo u.ko (λm' hm=>by
  obtain⟨o',d8,yH,lA,r'⟩:=hm;rw[ho] at lA;cases lA;exact⟨_,d8,yH,hL,r'⟩) aE hg
theorem Inv.turned{it:Addr}(I:Inv X af σ H s)(k:∀b o,b≠it->s.heap.get? b=some o->h'.get? b=some o)(hn:H it=none)(hL:it≠X.env.locals)
  (h1:it∈X.ex\/X.cG.heap.objs.size<=it) (h2:∀x c,X.env.cells.lookup x=some c->c≠it) (h3:∀p∈X.pn++af,p.1≠it):Inv X af σ H { s with heap:=h',toks:=t' }:=by
 have OM:∀b u,H b=some u->b≠it:=λb u e z=>by rw[z,hn] at e;cases e
 refine I.step (g':=s.gens) (d':=s.drawn) (ch:=[it]) (λb hb=>?_) (λb o _ _ hc e _=>k b o (λz=>hc (by simp[z])) e) (λb o _ _ hc e _=>⟨o.slots,k b o (λz=>hc (by simp[z])) e⟩) (λ_ _ _ _ n=>n)
  (λb o hc e=>⟨o,k b o (λz=>hc (by simp[z])) e⟩) (λ_ _ e=>e) (λ_ _ _ e=>e) (λb ps e=>⟨#[],by rw[e];simp⟩) (λm hm=>?_) (λb u e=>?_) I.bare
 .have e:b=it:=by simpa using hb
  subst e;exact⟨h1,hL,h2,h3⟩
 .obtain⟨o,es,ep,ho,r⟩:=hm;exact⟨o,es,ep,k _ o (afr hL) ho,r⟩
 .refine(I.aE b u e).gx (λc v hc q=>k c v ?_ q) (λ_ q=>q) λ_ _ q=>q
  rcases hc with z|z
  .rw[z];exact OM b u e
  .exact OM c _ z
theorem Inv.tok(I:Inv X af σ H s)(t:Nat):Inv X af σ H { s with toks:=t }:=I.un Un.refl I.aE
theorem Inv.kept(I:Inv X af σ H s)(k:∀b u,s.heap.get? b=some u->h'.get? b=some u):Inv X af σ H { s with heap:=h',toks:=t' }:=I.un (Un.kept k) (I.aE.kept k)
theorem Inv.laid(I:Inv X af σ H s)(k:∀b u,s.heap.get? b=some u->h'.get? b=some u)(hp:s.heap.objs.size<=a)(new:di X.prog X.w (upd H a o) h' a o):
  Inv X af σ (upd H a o) { s with heap:=h',toks:=t' }:=I.un (Un.laid k hp (I.aE.fresh hp)) (I.aE.laid k hp new)
theorem Inv.write(I:Inv X af σ H s)(mu:yc (H x))(he:e=x\/H e=some (.own x))(k:∀b u,b≠e->s.heap.get? b=some u->h'.get? b=some u)(vg:∃u,h'.get? e=some u)
  (new:di X.prog X.w (upd H x o) h' x o):Inv X af σ (upd H x o) { s with heap:=h',toks:=t' }:=I.un (Un.write mu he k vg) (I.aE.write mu he k vg new)
theorem Inv.tX(I:Inv X af σ H s)(h:∀p∈yR,s.heap.get? p.1=some p.2/\H p.1=none/\p.1≠X.env.locals/\p.1∉X.fs/\∀v,p.2.data≠.cell v):Inv X yR σ H s:=
 ⟨I.ok,I.os,I.bare,I.base,I.loc,I.cell,I.free,I.gS,λp hp=>(abE.mp hp).elim (λz=>I.pin p (abq _ z)) (h p),I.aE,I.len,I.hq⟩
theorem DF{N:List Str}(hN:N.Nodup){i j:Nat}(a:N[i]? = some x)(b:N[j]? = some x):i=j:=by
 obtain⟨h1,e1⟩:=abL.mp a;obtain⟨h2,e2⟩:=abL.mp b;exact(List.getElem_inj hN).mp (e1.trans e2.symm)
theorem Ov{M:Model}(I:Inv X af σ H s)(hN:X.N.Nodup)(hi:X.N[i]? = some x)(hx:Loc X.env.scope x)(r:RelV v u)
  (h:∀s',Inv X af (σ.set i (some v)) H s'->(∃a,Heap.SameBut a s.heap s'.heap/\(a=X.env.locals\/X.env.cells.lookup x=some a))->Q () s') (hf:v6 X x:=by first|exact .inl rfl|exact .inr rfl|assumption):wpAny M A (storeName X.env x u) Q E s:=by
 obtain⟨m,hn,hl⟩:=id I.loc;have wW:(X.env.scope.kind == .class||(X.env.scope.kind == .module&&X.env.locals != X.env.globals))=false:=by rw[I.ok.kind];rfl
 have Px:i<σ.length:=by rw[I.len];exact(abL.mp hi).1
 have jV:=I.jV;have tracked:∀{a:Addr} {h'},(∃o,s.heap.get? a=some o/\H a=none)->Heap.SameBut a s.heap h'->cM X.prog X.w H h':=λ{a h'} ha hs b ob e=>by
  obtain⟨_,_,Ol⟩:=ha;refine(I.aE b ob e).gx (λc w' hc q=>(hs.2 c ?_).trans q) (λ_ q=>q) λ_ _ q=>q
  rintro rfl
  rcases hc with rfl|hc
  .rw[Ol] at e;cases e
  .rw[Ol] at hc;cases hc
 rcases hx with hk|hk
 .refine wpAny_storeName_local hk hn (λh' HK hs=>?_) wW;obtain⟨oL,_,_,Cg,_⟩:=id hn;refine h _ ⟨I.ok,I.os,I.bare,⟨λb o e n hb hx=>?_,λb o e n hb hx=>?_,I.base.free,λb o e hx=>?_,I.base.jl,I.base.jo,I.base.ko⟩,⟨_,HK,λj y v' e1 e2 e3=>?_⟩,λy c e=>?_,I.free,I.gS,λp hp=>?_,tracked ⟨oL,Cg,I.free⟩ hs,by simpa using I.len,I.hq⟩ ⟨_,hs,.inl rfl⟩
  .exact(hs.2 b (acI (acU (abM e) I.ok.above))).trans (I.base.keep b o e n hb hx)
  .exists 75;exact⟨sl,(hs.2 b (acI (acU (abM e) I.ok.above))).trans e1⟩
  .exists 67;exact⟨o',(hs.2 b (acI (acU (abM e) I.ok.above))).trans e1⟩
  .by_cases hj:j=i
   .subst hj;rw[hi] at e1;cases e1;rw[aer Px] at e2;cases e2;exact⟨u,r,.inl ⟨hk,by simp⟩⟩
   .rw[acO (afr hj)] at e2;obtain⟨u',r',q⟩:=hl j y v' e1 e2 e3;refine⟨u',r',?_⟩;rcases q with⟨k,e⟩|⟨k,c,e,z⟩
    .refine .inl ⟨k,?_⟩;have:y≠x:=λe=>hj (DF hN e1 (e ▸ hi))
     simp[this,e]
    .exact .inr ⟨k,c,e,z.sameBut hs (jV y c e)⟩
  .obtain⟨w',z⟩:=I.cell y c e;exact⟨w',z.sameBut hs (jV y c e)⟩
  .exists 87;exact⟨(hs.2 p.1 ne).trans e,n,ne,nf,d⟩
 .have HE:X.fn x=true:=by
   rcases hf with z|z
   .exact z
   .rw[z] at hk;cases hk
  obtain⟨c,hc⟩:=I.ok.has x (.inl hk);obtain⟨w',z⟩:=I.cell x c hc;refine wpAny_storeName_cell I.ok.kind hk hc z (λh' tL hs=>?_);obtain⟨oc,kZ,afe⟩:=id z;refine h { s with heap:=h' } ⟨I.ok,I.os,I.bare,⟨λb o e n hb hx=>?_,λb o e n hb hx=>?_,I.base.free,λb o e hx=>?_,I.base.jl,I.base.jo,I.base.ko⟩,⟨m,hn.sameBut hs (afr (jV x c hc)),λj y v' e1 e2 e3=>?_⟩,λy c' e=>?_,I.free,I.gS,λp hp=>?_,tracked ⟨oc,kZ,I.gS x c hc⟩ hs,by simpa using I.len,I.hq⟩ ⟨c,hs,.inr hc⟩
  .exact(hs.2 b (acI (acU (abM e) (I.ok.oO x c HE hc)))).trans (I.base.keep b o e n hb hx)
  .exists 75;exact⟨sl,(hs.2 b (acI (acU (abM e) (I.ok.oO x c HE hc)))).trans e1⟩
  .exists 67;exact⟨o',(hs.2 b (acI (acU (abM e) (I.ok.oO x c HE hc)))).trans e1⟩
  .by_cases hj:j=i
   .subst hj;rw[hi] at e1;cases e1;rw[aer Px] at e2;cases e2;exact⟨u,r,.inr ⟨.inl hk,c,hc,tL⟩⟩
   .rw[acO (afr hj)] at e2;obtain⟨u',r',q⟩:=hl j y v' e1 e2 e3;refine⟨u',r',?_⟩;rcases q with q|⟨k,c',e,z'⟩
    .exact .inl q
    .refine .inr ⟨k,c',e,z'.sameBut hs ?_⟩
     rintro rfl
     exact hj (DF hN e1 (I.ok.inj _ _ _ e hc ▸ hi))
  .by_cases Rr:c'=c
   .subst Rr;exact⟨_,tL⟩
   .obtain⟨w2,z2⟩:=I.cell y c' e;exact⟨w2,z2.sameBut hs Rr⟩
  .exists 87;refine⟨(hs.2 p.1 ?_).trans e,n,ne,nf,d⟩;intro q;rw[q,kZ] at e;have q':=ab1 e;exact d w' (by rw[<- q'];exact afe)
theorem z8(I:Inv X af σ H s)(hN:X.N.Nodup)(hi:X.N[i]? = some x)(hx:Loc X.env.scope x)(r:RelV v u)
  (h:∀s',Inv X af (σ.set i (some v)) H s'->Q () s') (hf:v6 X x:=by first|exact .inl rfl|exact .inr rfl|assumption):wpAny M A (storeName X.env x u) Q E s:=
 Ov I hN hi hx r (λs' I' _=>h s' I') hf
theorem Inv.Ll(I:Inv X af σ H s)(ho:s'.os=s.os)(u:Un (aY X.stack) ch H H' s.heap s'.heap)(aE:cM X.prog X.w H' s'.heap)(hg:AllBare s'.gens)
  (mZ:∀b∈ch,(b∈X.ex\/X.cG.heap.objs.size<=b)/\b≠X.env.locals/\(∀x c,X.env.cells.lookup x=some c->c≠b)/\∀p∈X.pn++af,p.1≠b):Inv X af σ H' s':=by
 obtain⟨h',g',d',t',o'⟩:=s';have e:=ho;subst e;exact I.call (g':=g') (d':=d') u aE hg mZ
end
abbrev XK:=Value->Option Addr->Hp->Prop
noncomputable abbrev St:=List (Option V)
abbrev VK:=V->Hp->Prop
abbrev TE:=St->Hp->VK->Prop
abbrev TT:=St->Hp->(Bool->Hp->Prop)->Prop
abbrev TA:=St->Hp->(List V->Hp->Prop)->Prop
structure Ends where
 nx:St->Hp->Prop
 rt:VK
 bk:St->Hp->Prop:=λ_ _=>False
 ct:St->Hp->Prop:=λ_ _=>False
abbrev TS:=Ends->St->Hp->Prop
def EP(X:Cx)(af:List (Addr×Obj))(σ:St)(Q:VK)(u:Value)(s':Shared):Prop:=∃v H',Inv X af σ H' s'/\RelV v u/\Q v H'
def TP(X:Cx)(af:List (Addr×Obj))(σ:St)(Q:Bool->Hp->Prop)(b:Bool)(s':Shared):Prop:=∃H',Inv X af σ H' s'/\Q b H'
def AP(X:Cx)(af:List (Addr×Obj))(σ:St)(Q:List V->Hp->Prop)(us:List Value)(s':Shared):Prop:=∃vs H',Inv X af σ H' s'/\aU vs us/\Q vs H'
def SP(X:Cx)(af:List (Addr×Obj))(D:Ends)(f:Flow)(s':Shared):Prop:=
 match f with
 |.next=>∃az H',Inv X af az H' s'/\D.nx az H'
 |.brk=>∃az H',Inv X af az H' s'/\D.bk az H'
 |.cont=>∃az H',Inv X af az H' s'/\D.ct az H'
 |.ret u=>∃v az H',Inv X af az H' s'/\RelV v u/\D.rt v H'
def PE(X:Cx)(e:Expr)(t:TE):Prop:=
 ∀(af) (s) (σ) (H) (Q),Inv X af σ H s->t σ H Q->Y1 X X.A (eval e X.env) (EP X af σ Q) X.xe s
def PT(X:Cx)(e:Expr)(t:TT):Prop:=
 ∀(af) (s) (σ) (H) (Q),Inv X af σ H s->t σ H Q->Y1 X X.A (isTrue e X.env (eval e X.env)) (TP X af σ Q) X.xe s
def PW(X:Cx)(e:Expr)(t:TT):Prop:=
 ∀(whole) (af) (s) (σ) (H) (Q),Inv X af σ H s->t σ H Q->Y1 X X.A (isTrue e X.env whole) (TP X af σ Q) X.xe s
theorem PW.pt(h:PW X e t):PT X e t:=h _
def PA(X:Cx)(es:List Expr)(t:TA):Prop:=
 ∀(pos) (af) (s) (σ) (H) (Q),Inv X af σ H s->t σ H Q->Y1 X X.A (spliced (backTo pos (starEach es X.env))) (AP X af σ Q) X.xe s
def PS(X:Cx)(st:Stmt)(t:TS):Prop:=
 ∀(af) (s) (σ) (H) (D),Inv X af σ H s->t D σ H->Y1 X X.A (exec st X.env) (SP X af D) X.xe s
def iH(X:Cx)(st:List Stmt)(t:TS):Prop:=
 ∀(af) (s) (σ) (H) (D),Inv X af σ H s->t D σ H->Y1 X X.A (execs st X.env) (SP X af D) X.xe s
theorem aM(h:wpAny M A t Q E s)(hQ:∀a s,Q a s->Q' a s):wpAny M A t Q' E s:=adU h hQ λ_ _ x=>x
section
def G7(i:Nat):TE:=λσ H Q=>∃v,σ[i]? = some (some v)/\Q v H
def tC(v:V):TE:=λ_ H Q=>Q v H
theorem acg(hN:X.N[i]? = some x)(hv:HC X.env.scope x)(hd:(x==("__debug__":Str))=false:=by decide)(g7:(x==("__classdict__":Str))=false:=by decide):PE X (.Name x pos) (G7 i):=by
 exists 47;obtain⟨v,e,h⟩:=h;obtain⟨m,hn,hl⟩:=I.loc;obtain⟨u,r,l⟩:=hl i x v hN e hv;have fin:EP X af σ Q u s:=⟨v,H,I,r,h⟩
 rcases l with⟨hk,hm⟩|⟨hk,c,hc,Nl⟩
 .exact wpAny_Name (wpAny_loadName_local I.ok.kind hk hn hm fin) hd
 .rcases hk with hk|hk
  .exact wpAny_Name (wpAny_loadName_cell I.ok.kind hk hc Nl fin) hd
  .exact wpAny_Name (wpAny_loadName_free I.ok.kind hk hc Nl fin g7) hd
theorem LA{i j pos}:PE X (.Constant (.int i) j pos) (tC (.int i)):=λ_ _ _ H _ I h=>wpAny_Constant_int ⟨.int i,H,I.tok _,⟨_,rfl⟩,h⟩
theorem af8{b j pos}:PE X (.Constant (.bool b) j pos) (tC (.bl b)):=λ_ _ _ H _ I h=>Constant_bool ⟨.bl b,H,I,rfl,h⟩
theorem YO{j pos}:PE X (.Constant .none j pos) (tC .aA):=λ_ _ _ H _ I h=>Constant_none ⟨.aA,H,I,rfl,h⟩
theorem Uy{x j pos}:PE X (.Constant (.str x) j pos) (tC (.str x)):=λ_ _ _ H _ I h=>Calls.Constant_str ⟨.str x,H,I.tok _,⟨_,rfl⟩,h⟩
def Gl(X:Cx)(x:Str):Prop:=X.env.kindOf x=some .globalImplicit
theorem tK(I:Inv X af σ H s)(hg:Gl X x)(hm:X.mg x=some u)(h:Q u s)
  (hd:(x==("__debug__":Str))=false:=by decide):Y1 X X.A (eval (.Name x pos) X.env) Q E s:=
 Calls.Name_function_global I.ok.kind hg (Calls.loadGlobal_global (by rw[I.ok.glob];exact I.mod.glob.keeps I.bk) hm h) hd
theorem qj(I:Inv X af σ H s)(hg:Gl X x)(hm:X.mg x=none)(hv:bootBuiltins x=some u)(h:Q u s)
  (hn:x≠"__name__":=by decide) (hd:(x==("__debug__":Str))=false:=by decide):Y1 X X.A (eval (.Name x pos) X.env) Q E s:=by
 obtain⟨mb,h1,h2⟩:=I.mod.blt;exact Calls.Name_function_global I.ok.kind hg (Calls.loadGlobal_builtin (by rw[I.ok.glob];exact I.mod.glob.keeps I.bk) hm (by rw[I.ok.blt];exact h1.keeps I.bk) ((h2 x hn).trans hv) h) hd
theorem K4(hg:Gl X x)(hm:X.mg x=some u)(r:RelV v u)(hd:(x==("__debug__":Str))=false:=by decide):PE X (.Name x pos) (tC v):=
 λ_ _ _ H _ I h=>tK I hg hm ⟨v,H,I,r,h⟩ hd
theorem OD(hg:Gl X x)(hm:X.mg x=none)(hv:bootBuiltins x=some u)(r:RelV v u)(hn:x≠"__name__":=by decide)(hd:(x==("__debug__":Str))=false:=by decide):PE X (.Name x pos) (tC v):=
 λ_ _ _ H _ I h=>qj I hg hm hv ⟨v,H,I,r,h⟩ hn hd
def PC(X:Cx)(op:CmpOp)(a b:Expr)(t:TE):Prop:=
 ∀(af) (s) (σ) (H) (Q),Inv X af σ H s->t σ H Q->
  Y1 X X.A (eval a X.env) (λv bO=>Y1 X X.A (eval b X.env) (λu qu=>Y1 X X.A (compareOp op v u) (EP X af σ Q) X.xe qu) X.xe bO) X.xe s
def tB(t:TE):TT:=λσ H Q=>t σ H λx H1=>∃c,x=.bl c/\Q c H1
theorem Ks(h:PC X op a b t)(h1:behindInMarks op b=false:=by first|exact X4 _ (by decide) (by decide)|rfl):PE X (.Compare a [op] [b] pos) t:=λaf s σ H Q I hw=>wpAny_Compare1 (h af s σ H Q I hw) h1
theorem Tf(h:PC X op a b t)(h1:behindInMarks op b=false:=by first|exact X4 _ (by decide) (by decide)|rfl):PT X (.Compare a [op] [b] pos) (tB t):=by
 intro af s σ H Q I hw;refine wpAny_isTrue_Compare1 (aM (h af s σ H _ I hw) λv s1 h1=>aM h1 λu s2 h2=>aM h2 λc s3 ⟨x,H1,I1,r1,q1⟩=>?_) h1;obtain⟨d,rfl,q⟩:=q1;cases r1;exact afg ⟨H1,I1,q⟩
theorem J9(h:PE X e t)(he:∀whole,isTrue e X.env whole=(do let v <- whole;standAt e.pos;holding [v] (truthy v)):=by intro _;rfl):PT X e (tB t):=by
 intro af s σ H Q I hw;refine isTrue_plain (aM (h af s σ H _ I hw) λv s1 ⟨x,H1,I1,r1,q1⟩=>?_) (he _);obtain⟨d,rfl,q⟩:=q1;cases r1;exact afg ⟨H1,I1,q⟩
variable{rest:List Expr}
def UG(t u:TT):TT:=λσ H Q=>t σ H λc H1=>if c=true then u σ H1 Q else Q false H1
def Z3(t u:TT):TT:=λσ H Q=>t σ H λc H1=>if c=true then Q true H1 else u σ H1 Q
def agi(t:TT):TT:=λσ H Q=>t σ H λc H1=>Q (!c) H1
theorem KD(ha:PT X a tA):PW X (.BoolOp .And [a] pos) tA:=by
 intro wh af s σ H Q I h;refine isTrue_and (aM (ha af s σ H Q I h) λc s1 e=>?_);cases c with
 |true=>exact isTrue_and_nil e
 |false=>exact e
theorem UX(ha:PT X a tA):PW X (.BoolOp .Or [a] pos) tA:=by
 intro wh af s σ H Q I h;refine isTrue_or (aM (ha af s σ H Q I h) λc s1 e=>?_);cases c with
 |false=>exact isTrue_or_nil e
 |true=>exact e
theorem Ms(ha:PT X a tA)(hb:PW X (.BoolOp .And (b::rest) pos) HL):PW X (.BoolOp .And (a::b::rest) pos) (UG tA HL):=by
 intro wh af s σ H Q I h;refine isTrue_and (aM (ha af s σ H _ I h) λc s1 ⟨H1,I1,q1⟩=>?_);cases c with
 |true=>exact hb wh af s1 σ H1 Q I1 q1
 |false=>exact⟨H1,I1,q1⟩
theorem SO(ha:PT X a tA)(hb:PW X (.BoolOp .Or (b::rest) pos) HL):PW X (.BoolOp .Or (a::b::rest) pos) (Z3 tA HL):=by
 intro wh af s σ H Q I h;refine isTrue_or (aM (ha af s σ H _ I h) λc s1 ⟨H1,I1,q1⟩=>?_);cases c with
 |true=>exact⟨H1,I1,q1⟩
 |false=>exact hb wh af s1 σ H1 Q I1 q1
theorem Pc(ha:PT X a tA):PT X (.UnaryOp .Not a pos) (agi tA):=by
 exists 47;exact isTrue_not (ha af s σ H (λc H1=>Q (!c) H1) I h)
def abk(ta tb:TE):TE:=λσ H Q=>ta σ H λx H1=>∃c,x=.bl c/\if c=true then tb σ H1 Q else Q (.bl false) H1
def abh(ta tb:TE):TE:=λσ H Q=>ta σ H λx H1=>∃c,x=.bl c/\if c=true then Q (.bl true) H1 else tb σ H1 Q
def V6(ta:TE):TE:=λσ H Q=>ta σ H λx H1=>∃c,x=.bl c/\Q (.bl (!c)) H1
theorem RK{op}(h:PE X a t):PE X (.BoolOp op [a] pos) t:=λaf s σ H Q I hw=>BoolOp_one (h af s σ H Q I hw)
theorem X7(ha:PE X a ta)(hb:PE X (.BoolOp .And (b::rest) pos) tb):PE X (.BoolOp .And (a::b::rest) pos) (abk ta tb):=by
 exists 47;refine BoolOp_and (aM (ha af s σ H _ I h) λv s1 ⟨x,H1,I1,r1,q1⟩=>?_);obtain⟨c,rfl,q1⟩:=q1;cases r1;refine afg ?_;cases c with
 |true=>exact hb af s1 σ H1 Q I1 q1
 |false=>exact⟨.bl false,H1,I1,rfl,q1⟩
theorem RL(ha:PE X a ta)(hb:PE X (.BoolOp .Or (b::rest) pos) tb):PE X (.BoolOp .Or (a::b::rest) pos) (abh ta tb):=by
 exists 47;refine BoolOp_or (aM (ha af s σ H _ I h) λv s1 ⟨x,H1,I1,r1,q1⟩=>?_);obtain⟨c,rfl,q1⟩:=q1;cases r1;refine afg ?_;cases c with
 |false=>exact hb af s1 σ H1 Q I1 q1
 |true=>exact⟨.bl true,H1,I1,rfl,q1⟩
theorem adi(ha:PE X a ta):PE X (.UnaryOp .Not a pos) (V6 ta):=by
 exists 47;refine UnaryOp_ (aM (ha af s σ H _ I h) λv s1 ⟨x,H1,I1,r1,q1⟩=>?_);obtain⟨c,rfl,q1⟩:=q1;cases r1;exact not_of (afg ⟨.bl (!c),H1,I1,rfl,q1⟩)
def tIf(t:TT)(ta tb:TE):TE:=λσ H Q=>t σ H λc H1=>if c=true then ta σ H1 Q else tb σ H1 Q
theorem VP(hc:PT X c tA)(ha:PE X a ta)(hb:PE X b tb):PE X (.IfExp c a b pos) (tIf tA ta tb):=by
 exists 47;refine wpAny_IfExp (aM (hc af s σ H _ I h) λd s1 ⟨H1,I1,q1⟩=>?_);cases d with
 |true=>exact ha af s1 σ H1 Q I1 q1
 |false=>exact hb af s1 σ H1 Q I1 q1
end
def bZ(K:PySem.W.Frag)(H:Hp)(a:Addr)(xs:List V):Prop:=
 Rd H a (.lst xs)\/
  ∃(o:Obj) (au:Array Value) (n:Nat),K.lookup a=some o/\o.cls=.type "list"/\o.dict=none/\o.data=.seq au n/\au.size<=sizeLine/\aU xs au.toList
def ck(K:PySem.W.Frag)(H:Hp)(a:Addr)(xs:List V):Prop:=
 Rd H a (.tup xs)\/
  ∃(o:Obj) (au:Array Value) (n:Nat),K.lookup a=some o/\o.cls=.type "tuple"/\o.dict=none/\o.data=.seq au n/\au.size<=sizeLine/\aU xs au.toList
noncomputable def adG:Value->Option V
 |.none=>some .aA
 |.bool b=>some (.bl b)
 |.int i _=>some (.int i)
 |.str x _=>some (.str x)
 |.bytes b _=>some (.jI b)
 |.float b _=>some (.sR b)
 |.ref a=>some (.ref a)
 |.type n=>some (.ty n)
 |_=>none
theorem RelV.abs(r:RelV x u):adG u=some x:=by
 cases x with
 |aA=>cases r;rfl
 |bl _=>cases r;rfl
 |int _=>obtain⟨t,rfl⟩:=r;rfl
 |str _=>obtain⟨t,rfl⟩:=r;rfl
 |jI _=>obtain⟨t,rfl⟩:=r;rfl
 |sR _=>obtain⟨t,rfl⟩:=r;rfl
 |ref _=>cases r;rfl
 |ty _=>cases r;rfl
theorem RelV.inj(r:RelV x u)(q:RelV y u):x=y:=ab1 (r.abs.symm.trans q.abs)
theorem aU.inj:∀{xs ys} {us},aU xs us->aU ys us->xs=ys
 |_,_,_,.nil,.nil=>rfl
 |_,_,_,.cons r t,.cons r' t'=>by rw[r.inj r',aU.inj t t']
theorem bZ.of{K:PySem.W.Frag}(h:H a=some (.lst xs)):bZ K H a xs:=.inl (.inl h)
theorem ck.of{K:PySem.W.Frag}(h:H a=some (.tup xs)):ck K H a xs:=.inl (.inl h)
theorem Inv.list(I:Inv X af σ H s)(h:bZ X.K H a xs):∃au:List Value,aU xs au/\PlainL s.heap a au.toArray/\xs.length<=sizeLine:=by
 rcases h with h|⟨o,au,n,hk,hc,hd,hs,hz,r⟩
 .obtain⟨z,au,n,r,e⟩:=h.ok I.aE;exact⟨au,r,⟨_,n,e,rfl,rfl,rfl⟩,z⟩
 .refine⟨au.toList,r,⟨o,n,I.c8 a o hk,hc,hd,by simpa using hs⟩,?_⟩;have e:=r.length;simp only[aeO] at e;omega
theorem Inv.NV(I:Inv X af σ H s)(h:ck X.K H a xs):∃au:List Value,aU xs au/\n5 s.heap a au.toArray/\xs.length<=sizeLine:=by
 rcases h with h|⟨o,au,n,hk,hc,hd,hs,hz,r⟩
 .obtain⟨z,au,r,p⟩:=h.ok I.aE;exact⟨au,r,p,z⟩
 .refine⟨au.toList,r,⟨o,I.c8 a o hk,hc,hd,n,by simpa using hs⟩,?_⟩;have e:=r.length;simp only[aeO] at e;omega
theorem Inv.tuple(I:Inv X af σ H s)(h:ck X.K H a xs):∃au:List Value,aU xs au/\IsTup s.heap a au.toArray/\xs.length<=sizeLine:=by
 rcases h with h|⟨o,au,n,hk,hc,hd,hs,hz,r⟩
 .obtain⟨z,au,r,p⟩:=h.ok I.aE;exact⟨au,r,p.isTup,z⟩
 .refine⟨au.toList,r,⟨o,I.c8 a o hk,hc,n,by simpa using hs⟩,?_⟩;have e:=r.length;simp only[aeO] at e;omega
theorem Inv.IZ(I:Inv X af σ H s)(h:bZ X.K H a xs)(h':bZ X.K H a ys):xs=ys:=by
 obtain⟨au,r,⟨o,n,e,_,_,d⟩,_⟩:=I.list h;obtain⟨its',r',⟨o',n',e',_,_,d'⟩,_⟩:=I.list h';rw[e] at e';cases e';rw[d] at d';injection d' with d1 _;have:au=its':=by simpa using congrArg Array.toList d1
 subst this;exact r.inj r'
theorem Inv.aah(I:Inv X af σ H s)(h:ck X.K H a xs)(h':ck X.K H a ys):xs=ys:=by
 obtain⟨au,r,⟨o,e,_,n,d⟩,_⟩:=I.tuple h;obtain⟨its',r',⟨o',e',_,n',d'⟩,_⟩:=I.tuple h';rw[e] at e';cases e';rw[d] at d';injection d' with d1 _;have:au=its':=by simpa using congrArg Array.toList d1
 subst this;exact r.inj r'
noncomputable abbrev Cx.kM(X:Cx)(E:Value->Shared->Prop):Cx:={ X with xe:=E }
abbrev Cx.eZ(X:Cx):Cx:=X.kM λ_ _=>False
theorem Cx.Ok.kM{X:Cx}(ok:X.Ok)(E:Value->Shared->Prop):(X.kM E).Ok:=
 ⟨ok.mod,ok.kind,ok.glob,ok.blt,ok.above,ok.inj,ok.has,ok.oO,ok.hd,ok.frames,ok.pQ,ok.rR,ok.bs,ok.i_,ok.nZ,ok.n6,ok.iZ,ok.lO⟩
theorem Cx.Ok.lP{X:Cx}(ok:(X.kM E).Ok):X.Ok:=
 ⟨ok.mod,ok.kind,ok.glob,ok.blt,ok.above,ok.inj,ok.has,ok.oO,ok.hd,ok.frames,ok.pQ,ok.rR,ok.bs,ok.i_,ok.nZ,ok.n6,ok.iZ,ok.lO⟩
theorem Inv.kM(I:Inv X af σ H s)(E:Value->Shared->Prop):Inv (X.kM E) af σ H s:=⟨I.ok.kM E,I.os,I.bare,I.base,I.loc,I.cell,I.free,I.gS,I.pin,I.aE,I.len,I.hq⟩
theorem Inv.lP(I:Inv (X.kM E) af σ H s):Inv X af σ H s:=⟨I.ok.lP,I.os,I.bare,I.base,I.loc,I.cell,I.free,I.gS,I.pin,I.aE,I.len,I.hq⟩
theorem SP.lP(h:SP (X.kM E) af D f s'):SP X af D f s':=by
 cases f with
 |next=>obtain⟨az,H',I,q⟩:=h;exact⟨az,H',I.lP,q⟩
 |brk=>obtain⟨az,H',I,q⟩:=h;exact⟨az,H',I.lP,q⟩
 |cont=>obtain⟨az,H',I,q⟩:=h;exact⟨az,H',I.lP,q⟩
 |ret u=>obtain⟨v,az,H',I,r,q⟩:=h;exact⟨v,az,H',I.lP,r,q⟩
theorem iH.eZ{st:List Stmt}(h:iH X.eZ st t):iH X st t:=λaf s σ H D I hw=>
 adU (h af s σ H D (I.kM _) hw) (λ_ _ q=>q.lP) λ_ _ z=>False.elim z
section
variable{st:Stmt}{rest:List Stmt}
def SR:TS:=λD σ H=>D.nx σ H
def aef(t u:TS):TS:=λD σ H=>t { D with nx:=u D } σ H
theorem OY:iH X [] SR:=λ_ _ σ H _ I h=>ahc ⟨σ,H,I,h⟩
theorem zh(h1:PS X st t)(h2:iH X rest u):iH X (st::rest) (aef t u):=by
 exists 48;refine wpAny_execs_cons (aM (h1 af s σ H { D with nx:=u D } I h) λf s1 q=>?_);cases f with
 |next=>
  obtain⟨az,H',I',q⟩:=q;exact h2 af s1 az H' D I' q
 |ret v=>exact q
 |brk=>exact q
 |cont=>exact q
theorem N4(h1:PS X st t):iH X [st] t:=by
 exists 48;refine wpAny_execs_cons (aM (h1 af s σ H D I h) λf s1 q=>?_);cases f with
 |next=>exact ahc q
 |ret v=>exact q
 |brk=>exact q
 |cont=>exact q
theorem Inv.quiet(I:Inv X af σ H s):interactive X.env=false:=by simp[interactive,I.ok.kind]
def Uu(te:TE):TS:=λD σ H=>te σ H λ_ H1=>D.nx σ H1
theorem CG(he:PE X e te)(hs:swapsWith e none pos.line X.env=pure false:=by rfl):PS X (.Expr e pos) (Uu te):=by
 exists 48;exact wpAny_Expr_any (aM (he af s σ H _ I h) λv s1 ⟨x,H1,I1,r1,q1⟩=>⟨σ,H1,I1,q1⟩) I.quiet hs
def Yl(te:TE):TS:=λD σ H=>te σ H D.rt
theorem zA(he:PE X e te):PS X (.Return (some e) pos) (Yl te):=by
 exists 48;exact wpAny_Return_some (aM (he af s σ H _ I h) λv s1 ⟨x,H1,I1,r1,q1⟩=>⟨x,σ,H1,I1,r1,q1⟩)
def acB(c:TT)(t u:TS):TS:=λD σ H=>c σ H λb H1=>if b=true then t D σ H1 else u D σ H1
theorem Ah(hc:PT X c tc)(ha:iH X a t)(hb:iH X b u):PS X (.If c a b pos) (acB tc t u):=by
 exists 48;refine wpAny_If (aM (hc af s σ H _ I h) λd s1 ⟨H1,I1,q1⟩=>?_);cases d with
 |true=>exact ha af s1 σ H1 D I1 q1
 |false=>exact hb af s1 σ H1 D I1 q1
def Wx:TS:=λ_ _ _=>False
theorem MY:PS X st Wx:=λ_ _ _ _ _ _ h=>h.elim
end
abbrev TG:=V->St->Hp->(St->Hp->Prop)->Prop
abbrev wC:=List V->St->Hp->(St->Hp->Prop)->Prop
def PG(X:Cx)(target:Expr)(t:TG):Prop:=
 ∀(af) (s) (σ) (H) (v) (u) (Q),Inv X af σ H s->RelV v u->t v σ H Q->
  Y1 X X.A (assign target X.env u) (λ_ s'=>∃az H',Inv X af az H' s'/\Q az H') X.xe s
def yu(X:Cx)(ts:List Expr)(t:wC):Prop:=
 ∀(af) (s) (σ) (H) (vs) (us) (Q),Inv X af σ H s->aU vs us->t vs σ H Q->
  Y1 X X.A (assignInOrder ((assignEach ts X.env).map (·.2)) us) (λ_ s'=>∃az H',Inv X af az H' s'/\Q az H') X.xe s
def Cm(i:Nat):TG:=λv σ H Q=>Q (σ.set i (some v)) H
theorem Uk(hN:X.N.Nodup)(hi:X.N[i]? = some x)(hx:Loc X.env.scope x)(hf:v6 X x:=by first|exact .inl rfl|exact .inr rfl|assumption):PG X (.Name x pos) (Cm i):=by
 intro af s σ H v u Q I r h;exact wpAny_assign_Name (z8 I hN hi hx r (λs' I'=>⟨_,H,I',h⟩) hf)
def adO:wC:=λvs σ H Q=>vs=[]/\Q σ H
def Zt(t:TG)(u:wC):wC:=λvs σ H Q=>∃v r,vs=v::r/\t v σ H λaz H'=>u r az H' Q
theorem Yi:yu X [] adO:=by
 intro af s σ H vs us Q I r h;obtain⟨e,h⟩:=h;subst e;cases r;exact assignInOrder_nil ⟨σ,H,I,h⟩
theorem VJ(h1:PG X e t)(h2:yu X es u)
  (hs:(assignEach (e::es) X.env).map (·.2)=assign e X.env::(assignEach es X.env).map (·.2):=by rfl):yu X (e::es) (Zt t u):=by
 intro af s σ H vs us Q I r h;obtain⟨v,vr,e1,h⟩:=h;subst e1;cases r with
 |cons r rr=>
  rw[hs];refine assignInOrder_cons (aM (h1 af s σ H _ _ _ I r h) λ_ s1 ⟨oE,H1,I1,q1⟩=>?_);exact h2 af s1 oE H1 _ _ Q I1 rr q1
def Uo(K:PySem.W.Frag)(n:Nat)(t:wC):TG:=λv σ H Q=>∃a xs,v=.ref a/\ck K H a xs/\xs.length=n/\t xs σ H Q
theorem Wg(hc:X.calm=true)(h:yu X es t)
  (hn:(assignEach es X.env).length=n:=by rfl) (cX:(assignEach es X.env).findIdx? (·.1)=none:=by rfl):PG X (.Tuple es k pos) (Uo X.K n t):=by
 intro af s σ H v u Q I r hw;obtain⟨a,xs,e1,hq,hl,hw⟩:=hw;subst e1;cases r;obtain⟨au,rv,ht,hz⟩:=I.tuple hq;refine assign_Tuple_tuple (I.ok.hd hc) ht (by simp[hn,<- hl,rv.length]) cX λh' hx=>?_
 have I1:=I.kept (t':=s.toks) λb o e=>hx b o (acI (abM e)) e
 exact h af _ σ H xs _ Q I1 (by simpa using rv) hw
def Kl(te:TE)(g:TG):TS:=λD σ H=>te σ H λx H1=>g x σ H1 D.nx
theorem AL(hN:X.N.Nodup)(hi:X.N[i]? = some x)(hx:Loc X.env.scope x)(he:PE X e te)(hs:swapsWith e (some (.Name x pos')) pos.line X.env=pure false:=by rfl)(hf:v6 X x:=by first|exact .inl rfl|exact .inr rfl|assumption):
  PS X (.Assign [.Name x pos'] e pos) (Kl te (Cm i)):=by
 exists 48;refine wpAny_Assign_Name (aM (he af s σ H _ I h) λv s1 ⟨y,H1,I1,r1,q1⟩=>?_) hs;exact z8 I1 hN hi hx r1 (λs2 I2=>⟨_,H1,I2,q1⟩) hf
def abr(c:TT)(tb:TS):TS:=λD σ H=>∃W:Nat->St->Hp->Prop,(∃m,W m σ H)/\∀m σ H,W m σ H->
 c σ H λb H1=>if b=true then ∃N:St->Hp->Prop,(∀az H',N az H'->∃m',m'<m/\W m' az H')/\tb { D with nx:=N,ct:=N,bk:=D.nx } σ H1 else D.nx σ H1
theorem Ow(hp:PassesOwn (model X.prog X.w) X.A X.env X.xe)(hc:PT X c tc)(hb:iH X body tb):PS X (.While c body [] pos) (abr tc tb):=by
 exists 48;obtain⟨W,⟨m0,w0⟩,turn⟩:=h;refine wpAny_While (codeAny_whileLoop (λn s'=>∃az H',Inv X af az H' s'/\W n az H') ?_ m0 ⟨σ,H,I,w0⟩)
 rintro n s1 ⟨oE,H1,I1,w1⟩
 refine agI hp (aM (hc af s1 oE H1 _ I1 (turn n oE H1 w1)) λb s2 ⟨H2,I2,q2⟩=>?_);cases b with
 |true=>
  obtain⟨N,hN,q2⟩:=q2;rw[if_pos rfl];refine agI hp (aM (hb af s2 oE H2 _ I2 q2) λf s3 q3=>?_);cases f with
  |next=>
   obtain⟨cT,H3,I3,n3⟩:=q3;obtain⟨m',hm,w3⟩:=hN cT H3 n3;exact⟨m',hm,cT,H3,I3,w3⟩
  |cont=>
   obtain⟨cT,H3,I3,n3⟩:=q3;obtain⟨m',hm,w3⟩:=hN cT H3 n3;exact⟨m',hm,cT,H3,I3,w3⟩
  |brk=>exact q3
  |ret v=>exact q3
 |false=>
  rw[if_neg abz];exact ahc ⟨oE,H2,I2,q2⟩
structure It where
 go:Nat->Hp->Prop
 wX:Nat->Hp->V->Hp->Prop
 stop:Nat->Hp->Prop
 rg:Bool
def iQ(X:Cx)(af:List (Addr×Obj))(H:Hp)(b:Addr):Prop:=
 H b=none/\b≠X.env.locals/\b∉X.fs/\(b∈X.ex\/X.cG.heap.objs.size<=b)/\(∀x c,X.env.cells.lookup x=some c->c≠b)/\∀p∈X.pn++af,p.1≠b
theorem Inv.sW(I:Inv X af σ H s)(hb:s.heap.objs.size<=b)(hn:H' b=none):iQ X af H' b:=by
 refine⟨hn,agw (acU I.lt hb),I.LN hb,.inr (adE I.sz hb),λx c e z=>?_,λp hp z=>?_⟩
 .obtain⟨v,q⟩:=I.cell x c e;exact absurd (acU q.lt (by rw[z];exact hb)) (aeM _)
 .exact absurd (acU (abM (I.pin p hp).1) (by rw[z];exact hb)) (aeM _)
structure Turn(P:Program)(w:World)(K:PySem.W.Frag)(tg:Expr)(J:It)(fp:List Addr)(it:Addr)(tn:Nat->Heap->Prop):Prop where
 mem:it∈fp
 obj:∀i h,tn i h->∀b∈fp,∃o,h.get? b=some o/\∀v,o.data≠.cell v
 keep:∀i h h',tn i h->(∀b∈fp,∀o,h.get? b=some o->h'.get? b=some o)->tn i h'
 item:∀(X),X.prog=P->X.w=w->X.K=K->(X.calm=true\/J.rg=true)->∀(i) (af) (s) (σ) (H) (E),Inv X af σ H s->(∀b∈fp,iQ X af H b)->tn i s.heap->J.go i H->
  wpAny (model P w) X.A (pyNext (.ref it)) (λr s1=>∃u,r=some u/\
   wpAny (model P w) X.A (letOwnedTupleGo tg (.ref it) u) (λ_ s2=>∃x H',Inv X af σ H' s2/\RelV x u/\J.wX i H x H'/\tn (i+1) s2.heap/\∀b∈fp,H' b=none) E s1) E s
 done:∀(X),X.prog=P->X.w=w->X.K=K->(X.calm=true\/J.rg=true)->∀(i) (af) (s) (σ) (H) (E),Inv X af σ H s->(∀b∈fp,iQ X af H b)->tn i s.heap->J.stop i H->
  wpAny (model P w) X.A (pyNext (.ref it)) (λr s1=>r=none/\Inv X af σ H s1) E s
 self:∀(A) (i) (s) (Q) (E),tn i s.heap->Q (.ref it) s->wpAny (model P w) A (pyIter (.ref it)) Q E s
abbrev TI:=St->Hp->(It->Hp->Prop)->Prop
def LC(X:Cx)(af:List (Addr×Obj))(σ:St)(tg:Expr)(R:It->Hp->Prop)(Bv:Value)(s2:Shared):Prop:=
 ∃(it:Addr) (fp:List Addr) (tn:Nat->Heap->Prop) (J:It) (H':Hp),Bv=.ref it/\Inv X af σ H' s2/\Turn X.prog X.w X.K tg J fp it tn/\tn 0 s2.heap/\(∀b∈fp,iQ X af H' b)/\R J H'
def PI(X:Cx)(tg iter:Expr)(wi:TI):Prop:=
 ∀(af) (s) (σ) (H) (R),Inv X af σ H s->wi σ H R->
  Y1 X X.A (eval iter X.env) (λv s1=>Y1 X X.A (pyIter v) (LC X af σ tg R) X.xe s1) X.xe s
theorem Gh(ho:s.heap.get? it=some o)(hc:o.cls=.type n)(hd:o.data=.fields vs)
    (hn:["enumerate","zip","dict_itemiterator","dict_reverseitemiterator","odict_iterator","itertools.zip_longest","itertools.pairwise"].contains n=false) (hQ:Q () s):wpAny M A (letOwnedTupleGo tg (.ref it) u) Q E s:=by
  unfold letOwnedTupleGo;cases tg<;>first
    |exact acD hQ
    | (cases u <;> first
        |exact acD hQ
        | (refine aa7 (wpAny_load ho ?_)
           rw[hc,hd];show wpAny M A (if(["enumerate","zip","dict_itemiterator","dict_reverseitemiterator","odict_iterator","itertools.zip_longest","itertools.pairwise"].contains n&&vs[0]?==some (rawInt _))=true then _ else _) Q E s;rw[if_neg (by intro h;rw[hn,Bool.false_and] at h;cases h)];exact acD hQ))
noncomputable def B9(K:PySem.W.Frag)(a:Addr):It:=
 ⟨λi H=>∃xs x,bZ K H a xs/\xs[i]? = some x,λi H x H'=>H'=H/\∀xs,bZ K H a xs->xs[i]? = some x,λi H=>∃xs,bZ K H a xs/\xs.length<=i,false⟩
noncomputable def J_(K:PySem.W.Frag)(a:Addr):It:=
 ⟨λi H=>∃xs x,ck K H a xs/\xs[i]? = some x,λi H x H'=>H'=H/\∀xs,ck K H a xs->xs[i]? = some x,λi H=>∃xs,ck K H a xs/\xs.length<=i,false⟩
def xA(lo:Int)(n:Nat):It:=⟨λi _=>i<n,λi H x H'=>H'=H/\x=.int (lo+i),λi _=>n<=i,true⟩
theorem Yg{K:PySem.W.Frag}(a it:Addr):Turn P w K tg (B9 K a) [it] it (λi h=>h.IsListIter it a i) where
 mem:=by simp
 obj:=λi h st b hb=>by
  have e:b=it:=by simpa using hb
  subst e;obtain⟨o,e,c,d⟩:=st;exact⟨o,e,λv z=>by rw[d] at z;cases z⟩
 keep:=λi h h' st k=>st.at λo e=>k it (by simp) o e
 item:=by
  exists 41;subst hP hw hK;obtain⟨xs,x,hq,hx⟩:=hg;obtain⟨au,rv,p,hz⟩:=I.list hq;obtain⟨u,hu,ru⟩:=rv.get hx;exists 58;refine wpAny_pyNext_list_item st p.isList (by simpa using hu) λh' nI sb=>?_
  have I1:=I.turned (t':=s.toks) (λb o hb e=>(sb.2 b hb).trans e) f0 f1 f3 f4 f5;obtain⟨o,e,c,d⟩:=id nI;exact⟨u,rfl,Gh e c d (by decide) ⟨x,H,I1,ru,⟨rfl,λys hy=>by rw[I.IZ hy hq];exact hx⟩,nI,λb hb=>(hf b hb).1⟩⟩
 done:=by
  exists 41;subst hP hw hK;obtain⟨xs,hq,hx⟩:=hg;obtain⟨au,rv,p,hz⟩:=I.list hq;exists 58;have hl:=rv.length;exact wpAny_pyNext_list_end (I.ok.hd (hc.resolve_right λz=>abz z)) st p.isList (by simp;omega) λh' eb=>⟨rfl,I.turned (λb o hb e=>eb b o hb e) f0 f1 f3 f4 f5⟩
 self:=λ_ _ _ _ _ st h=>wpAny_pyIter_listiter st h
theorem acy{K:PySem.W.Frag}(a it:Addr):Turn P w K tg (J_ K a) [it] it (λi h=>h.IsTupleIter it a i) where
 mem:=by simp
 obj:=λi h st b hb=>by
  have e:b=it:=by simpa using hb
  subst e;obtain⟨o,e,c,d⟩:=st;exact⟨o,e,λv z=>by rw[d] at z;cases z⟩
 keep:=λi h h' st k=>st.at λo e=>k it (by simp) o e
 item:=by
  exists 41;subst hP hw hK;obtain⟨xs,x,hq,hx⟩:=hg;obtain⟨au,rv,p,hz⟩:=I.tuple hq;obtain⟨u,hu,ru⟩:=rv.get hx;exists 58;refine wpAny_pyNext_tuple_item st (show s.heap.IsTuple a au.toArray from p) (by simpa using hu) λh' nI sb=>?_
  have I1:=I.turned (t':=s.toks) (λb o hb e=>(sb.2 b hb).trans e) f0 f1 f3 f4 f5;obtain⟨o,e,c,d⟩:=id nI;exact⟨u,rfl,Gh e c d (by decide) ⟨x,H,I1,ru,⟨rfl,λys hy=>by rw[I.aah hy hq];exact hx⟩,nI,λb hb=>(hf b hb).1⟩⟩
 done:=by
  exists 41;subst hP hw hK;obtain⟨xs,hq,hx⟩:=hg;obtain⟨au,rv,p,hz⟩:=I.tuple hq;exists 58;have hl:=rv.length;exact wpAny_pyNext_tuple_end (I.ok.hd (hc.resolve_right λz=>abz z)) st (show s.heap.IsTuple a au.toArray from p) (by simp;omega) λh' eb=>⟨rfl,I.turned (λb o hb e=>eb b o hb e) f0 f1 f3 f4 f5⟩
 self:=λ_ _ _ _ _ st h=>wpAny_pyIter_tupleiter st h
theorem Wb{K:PySem.W.Frag}(it:Addr)(lo:Int)(n:Nat):Turn P w K tg (xA lo n) [it] it (λi h=>IsRangeIter h it (lo+(i:Nat)*1) ((n:Int)-(i:Nat)) 1) where
 mem:=by simp
 obj:=λi h st b hb=>by
  have e:b=it:=by simpa using hb
  subst e;exact⟨_,st,λv z=>by
   have z':=z;cases z'⟩
 keep:=λi h h' st k=>k it (by simp) _ st
 item:=by
  exists 41;subst hP hw hK;exists 58;refine wpAny_pyNext_range_item st (by have:i<n:=hg;omega) λh' nI sb=>?_
  have I1:Inv X af σ H { s with heap:=h',toks:=s.toks+1 }:=I.turned (λb o hb e=>(sb.2 b hb).trans e) f0 f1 f3 f4 f5;have e1:lo+((i+1:Nat):Int)*1=lo+(i:Int)*1+1:=by omega
  have e2:(n:Int)-((i+1:Nat):Int)=(n:Int)-(i:Int)-1:=by omega
  refine⟨_,rfl,Gh nI rfl rfl (by decide) ⟨.int (lo+i),H,I1,⟨s.toks,?_⟩,⟨rfl,rfl⟩,by rw[e1,e2];exact nI,λb hb=>(hf b hb).1⟩⟩;rw[Int.mul_one]
 done:=by
  exists 41;subst hP hw hK;exists 58;rcases I.hq.hd with h0|⟨a',ob,u,vs,h0,h1,h2,h3⟩
  .exact wpAny_pyNext_range_end h0 st (by have:n<=i:=hg;omega) λh' eb=>⟨rfl,I.turned (λb o hb e=>eb b o hb e) f0 f1 f3 f4 f5⟩
  .exact ZJ h0 (I.aE a' _ h1).1 h2 h3 st (by have:n<=i:=hg;omega) λh' eb=>⟨rfl,I.turned (λb o hb e=>eb b o hb e) f0 f1 f3 f4 f5⟩
 self:=λ_ _ _ _ _ st h=>wpAny_pyIter_rangeiter st h
theorem Ny{lo hi:Int}{tk:Nat}(I:Inv X af σ H s)(h1:-(2 ^ 62)<=lo)(h2:lo<2 ^ 62)(h3:-(2 ^ 62)<=hi)(h4:hi<2 ^ 62)
  (q:R (xA lo (hi-lo).toNat) H):Y1 X X.A (pyIter (.ref s.heap.objs.size)) (LC X af σ tg R) E { s with heap:=s.heap.push { cls:=.type "range",data:=.fields #[.int lo t,.int hi u,.int 1 v] },toks:=tk }:=by
 refine wpAny_pyIter_range (IsRange.new ..) (small_one h1 h2 h3 h4) ?_;have I1:Inv X af σ H { s with heap:=s.heap.push { cls:=.type "range",data:=.fields #[.int lo t,.int hi u,.int 1 v] },toks:=tk }:=I.kept λb o e=>aaT _ e
 refine⟨(s.heap.push { cls:=.type "range",data:=.fields #[.int lo t,.int hi u,.int 1 v] }).objs.size,[(s.heap.push { cls:=.type "range",data:=.fields #[.int lo t,.int hi u,.int 1 v] }).objs.size],_,_,H,rfl,
  I1.kept λb o e=>aaT _ e,Wb _ lo (hi-lo).toNat,?_,λb hb=>?_,q⟩
 .have e1:lo+((0:Nat):Int)*1=lo:=by simp
  have e2:(((hi-lo).toNat:Nat):Int)-((0:Nat):Int)=Builtin.Range.rangeSize lo hi 1:=by rw[rangeSize_one];split<;>omega
  rw[e1,e2];exact ab3 _ rfl
 .have e:b=(s.heap.push { cls:=.type "range",data:=.fields #[.int lo t,.int hi u,.int 1 v] }).objs.size:=by simpa using hb
  subst e;exact I1.sW (abT _) (I1.aE.fresh (abT _))
def ac2(ta:TA):TI:=λσ H R=>ta σ H λvs H1=>∃j:Int,vs=[.int j]/\-(2 ^ 62)<=j/\j<2 ^ 62/\R (xA 0 j.toNat) H1
def aeX(ta:TA):TI:=λσ H R=>ta σ H λvs H1=>∃i j:Int,vs=[.int i,.int j]/\(-(2 ^ 62)<=i/\i<2 ^ 62/\-(2 ^ 62)<=j/\j<2 ^ 62)/\R (xA i (j-i).toNat) H1
theorem Wi{ta:TA}(hg:Gl X "range")(hm:X.mg "range"=none)(ha:PA X [a] ta)(hs:Y2 X a:=by rfl):PI X tg (.Call (.Name "range" p) [a] [] pos) (ac2 ta):=by
 intro af s σ H R I h;refine Call_ (qj I hg hm boot_range (agy (aM (ha pos af s σ H _ I h) λus s1 ⟨vs,H1,I1,r1,q1⟩=>?_) hs rfl));obtain⟨j,e,q1,q2,q⟩:=q1;subst e;cases r1 with
 |cons r rr=>
  cases rr;obtain⟨t,rfl⟩:=r;exact call_range_1 (Ny I1 (by omega) (by omega) q1 q2 (by simpa using q))
theorem Ul(hg:Gl X "range")(hm:X.mg "range"=none)(ha:PA X [a,b] ta)(hs:starEach [a,b] X.env=[(false,eval a X.env),(false,eval b X.env)]:=by rfl)(cJ:Y2 X b:=by rfl):
  PI X tg (.Call (.Name "range" p) [a,b] [] pos) (aeX ta):=by
 intro af s σ H R I h;refine Call_ (qj I hg hm boot_range (agy (aM (ha pos af s σ H _ I h) λus s1 ⟨vs,H1,I1,r1,q1⟩=>?_) (by rw[hs,cJ]) (by rw[cJ];rfl)));obtain⟨i,j,e,⟨q1,q2,q3,q4⟩,q⟩:=q1;subst e;cases r1 with
 |cons r rr=>
  cases rr with
  |cons r' rr=>
   cases rr;obtain⟨t,rfl⟩:=r;obtain⟨t',rfl⟩:=r';exact call_range_2 (Ny I1 q1 q2 q3 q4 q)
def aac(wi:TI)(g:TG)(tb:TS):TS:=λD σ H=>wi σ H λJ H1=>∃W:Nat->Nat->St->Hp->Prop,(∃m,W 0 m σ H1)/\∀i m σ H,W i m σ H->
 (J.stop i H/\D.nx σ H)\/(J.go i H/\∃N:St->Hp->Prop,(∀az H',N az H'->∃m',m'<m/\W (i+1) m' az H')/\∀x H',J.wX i H x H'->g x σ H' λiN H2=>tb { D with nx:=N,ct:=N,bk:=D.nx } iN H2)
noncomputable def xG(fp:List Addr)(h:Heap):List (Addr×Obj):=fp.filterMap λb=>(h.get? b).map λo=>(b,o)
theorem Ac(hb:b∈fp)(e:h.get? b=some o):(b,o)∈xG fp h:=agr.mpr ⟨b,hb,by rw[e];rfl⟩
theorem WY(hp:p∈xG fp h):p.1∈fp/\h.get? p.1=some p.2:=by
 obtain⟨b,hb,e⟩:=agr.mp hp;exists q,h.get? b,o,e;have e':=ab1 e;subst e';exact⟨hb,q⟩
theorem Inv.pinned(I:Inv X af σ H s)(hf:∀b∈fp,iQ X af H b)(ho:∀b∈fp,∃o,s.heap.get? b=some o/\∀v,o.data≠.cell v):Inv X (af++xG fp s.heap) σ H s:=
 I.tX λp hp=>(abE.mp hp).elim (λz=>I.pin p (aaV _ z)) λz=>by
  obtain⟨hb,e⟩:=WY z;obtain⟨f0,f1,f2,_⟩:=hf p.1 hb;obtain⟨o,e',d⟩:=ho p.1 hb;rw[e] at e';cases e';exact⟨e,f0,f1,f2,d⟩
theorem Inv.yq(I:Inv X (af++pl) σ H s):Inv X af σ H s:=I.tX λp hp=>I.pin p (aaV _ (abq _ hp))
theorem ae4(hp:PassesOwn (model X.prog X.w) X.A X.env X.xe)(hc:X.calm=true)(hi:PI X tg iter wi)(hg:PG X tg g)(hb:iH X body tb)
  (hs:∀x,foldedSetIterable iter X.env x=pure x:=by intro _;rfl):PS X (.For tg iter body [] pos) (aac wi g tb):=by
 exists 48;refine wpAny_For (aM (hi af s σ H _ I h) λv s1 h1=>aM h1 λBv s2 h2=>?_) hs;obtain⟨it,fp,tn,J,H2,e,I2,T,sQ,f2,W,⟨m0,w0⟩,turn⟩:=h2;subst e;have sE:∀{H':Hp},(∀b∈fp,H' b=none)->∀b∈fp,iQ X af H' b:=λhn b hb=>⟨hn b hb,(f2 b hb).2⟩
 refine codeAny_forLoop_any (λn s'=>∃i az H',Inv X af az H' s'/\tn i s'.heap/\(∀b∈fp,H' b=none)/\W i n az H') ?_ m0 ⟨0,σ,H2,I2,sQ,λb hb=>(f2 b hb).1,w0⟩
 rintro n s3 ⟨i,cT,H3,I3,Po,L7,w3⟩
 rcases turn i n cT H3 w3 with⟨stop,qn⟩|⟨go,N,hN,step⟩
 .refine agI hp (aM (T.done X rfl rfl rfl (.inl hc) i af s3 cT H3 X.xe I3 (sE L7) Po stop) λr s4 ⟨hr,I4⟩=>?_);subst hr;exact ahc ⟨cT,H3,I4,qn⟩
 .refine agI hp (aM (T.item X rfl rfl rfl (.inl hc) i af s3 cT H3 X.xe I3 (sE L7) Po go) λr s4 ⟨u,hr,h4⟩=>?_);subst hr;refine agI hp (aM h4 λ_ s5 ⟨x,H5,I5,r5,y5,vI,lK⟩=>?_);have I5':=I5.pinned (sE lK) (T.obj _ _ vI);refine agI hp (aM (hg _ s5 cT H5 x u _ I5' r5 (step x H5 y5)) λ_ s6 ⟨jg,H6,I6,q6⟩=>?_);refine agI hp (aM (hb _ s6 jg H6 _ I6 q6) λf s7 q7=>?_);have again:∀{lE:St}{H7:Hp},Inv X (af++xG fp s5.heap) lE H7 s7->N lE H7->∃m,m<n/\∃i az H',Inv X af az H' s7/\tn i s7.heap/\(∀b∈fp,H' b=none)/\W i m az H':=λ{lE H7} I7 n7=>by
   obtain⟨m',hm,w7⟩:=hN lE H7 n7;refine⟨m',hm,i+1,lE,H7,I7.yq,T.keep _ _ _ vI λb hb o e=>(I7.pin (b,o) (aaV _ (aaV _ (Ac hb e)))).1,λb hb=>?_,w7⟩;obtain⟨o,e,d⟩:=T.obj _ _ vI b hb;exact(I7.pin (b,o) (aaV _ (aaV _ (Ac hb e)))).2.1
  cases f with
  |next=>obtain⟨lE,H7,I7,n7⟩:=q7;exact again I7 n7
  |cont=>obtain⟨lE,H7,I7,n7⟩:=q7;exact again I7 n7
  |brk=>obtain⟨lE,H7,I7,q7⟩:=q7;exact⟨lE,H7,I7.yq,q7⟩
  |ret v=>obtain⟨x7,lE,H7,I7,r7,q7⟩:=q7;exact⟨x7,lE,H7,I7.yq,r7,q7⟩
abbrev R2:=V->V->Hp->VK->Prop
def c_(X:Cx)(f:Value->Value->Sem Value)(r:R2):Prop:=
 ∀(af:List (Addr×Obj)) (s:Shared) (σ:St) (H:Hp) (x y:V) (v u:Value) (Q:VK),Inv X af σ H s->RelV x v->RelV y u->r x y H Q->
  Y1 X X.A (f v u) (EP X af σ Q) X.xe s
def Fw(X:Cx)(f:Value->Sem Value)(r:V->Hp->VK->Prop):Prop:=
 ∀(af:List (Addr×Obj)) (s:Shared) (σ:St) (H:Hp) (x:V) (v:Value) (Q:VK),Inv X af σ H s->RelV x v->r x H Q->
  Y1 X X.A (f v) (EP X af σ Q) X.xe s
def fX(X:Cx)(f:Value)(r:List V->Hp->VK->Prop):Prop:=
 ∀(af:List (Addr×Obj)) (s:Shared) (σ:St) (H:Hp) (xs:List V) (us:List Value) (Q:VK),Inv X af σ H s->aU xs us->r xs H Q->
  Y1 X X.A (call f us) (EP X af σ Q) X.xe s
def V7(X:Cx)(r:V->Hp->(Bool->Hp->Prop)->Prop):Prop:=
 ∀(af:List (Addr×Obj)) (s:Shared) (σ:St) (H:Hp) (x:V) (v:Value) (Q:Bool->Hp->Prop),Inv X af σ H s->RelV x v->r x H Q->
  Y1 X X.A (truthy v) (TP X af σ Q) X.xe s
def uE(r:R2)(ta tb:TE):TE:=λσ H Q=>ta σ H λx H1=>tb σ H1 λy H2=>r x y H2 Q
def XU(r:V->Hp->VK->Prop)(ta:TE):TE:=λσ H Q=>ta σ H λx H1=>r x H1 Q
def rI(C:Int->Int->Prop)(g:Int->Int->V):R2:=λx y H Q=>∃i j,x=.int i/\y=.int j/\C i j/\Q (g i j) H
def m8(g:Int->Int->V):R2:=λx y H Q=>∃i j,x=.int i/\y=.int j/\Q (g i j) H
def rU(g:Int->V):V->Hp->VK->Prop:=λx H Q=>∃i,x=.int i/\Q (g i) H
theorem ID(ha:PE X a ta)(hb:PE X b tb){R:V->V->Hp->Prop}(I:Inv X af σ H s)
  (h:ta σ H λx H1=>tb σ H1 λy H2=>R x y H2) {f:Value->Value->Sem Value}
  (hf:∀v u s2 x y H2,Inv X af σ H2 s2->RelV x v->RelV y u->R x y H2->Y1 X X.A (f v u) Q X.xe s2) :
  Y1 X X.A (eval a X.env) (λv bO=>Y1 X X.A (eval b X.env) (λu qu=>Y1 X X.A (f v u) Q X.xe qu) X.xe bO) X.xe s:=by
 refine aM (ha af s σ H _ I h) λv s1 ⟨x,H1,I1,r1,q1⟩=>?_
 refine aM (hb af s1 σ H1 _ I1 q1) λu s2 ⟨y,H2,I2,r2,q2⟩=>?_
 exact hf v u s2 x y H2 I2 r1 r2 q2
theorem OS{r:R2}(ho:c_ X (binaryOp op) r)(ha:PE X a ta)(hb:PE X b tb):PE X (.BinOp a op b pos) (uE r ta tb):=by
 exists 47;exact wpAny_BinOp (ID ha hb I h λv u s2 x y H2 I2 rx ry q=>ho af s2 σ H2 x y v u Q I2 rx ry q)
theorem ae7(ho:Fw X (unaryOp op) r)(ha:PE X a ta):PE X (.UnaryOp op a pos) (XU r ta):=by
 exists 47;exact UnaryOp_ (aM (ha af s σ H _ I h) λv s1 ⟨x,H1,I1,r1,q1⟩=>ho af s1 σ H1 x v Q I1 r1 q1)
theorem Gx{g:Int->Int->Int}
  (rule:∀(i j:Int) (t u:Tok) (s:Shared) (Q:Value->Shared->Prop) (E:Value->Shared->Prop),C i j->Q (.int (g i j) s.toks) { s with toks:=s.toks+1 }->Y1 X X.A (f (.int i t) (.int j u)) Q E s) :
  c_ X f (rI C λi j=>.int (g i j)):=by
 exists 44;obtain⟨i,j,rfl,rfl,hc,q⟩:=h;exists 79;obtain⟨t',rfl⟩:=ry;exact rule i j t t' s _ _ hc ⟨.int (g i j),H,I.tok _,⟨_,rfl⟩,q⟩
theorem MU{g:Int->Int->Int}
  (rule:∀(i j:Int) (t u:Tok) (s:Shared) (Q:Value->Shared->Prop) (E:Value->Shared->Prop),Q (.int (g i j) s.toks) { s with toks:=s.toks+1 }->Y1 X X.A (f (.int i t) (.int j u)) Q E s) :
  c_ X f (m8 λi j=>.int (g i j)):=by
 exists 44;obtain⟨i,j,rfl,rfl,q⟩:=h;exists 79;obtain⟨t',rfl⟩:=ry;exact rule i j t t' s _ _ ⟨.int (g i j),H,I.tok _,⟨_,rfl⟩,q⟩
theorem Cp{g:Int->Int->Bool}
  (rule:∀(i j:Int) (t u:Tok) (s:Shared) (Q:Value->Shared->Prop) (E:Value->Shared->Prop),Q (.bool (g i j)) s->Y1 X X.A (f (.int i t) (.int j u)) Q E s) :
  c_ X f (m8 λi j=>.bl (g i j)):=by
 exists 44;obtain⟨i,j,rfl,rfl,q⟩:=h;exists 79;obtain⟨t',rfl⟩:=ry;exact rule i j t t' s _ _ ⟨.bl (g i j),H,I,rfl,q⟩
def agf(i j:Int):Prop:=0<j/\j<1073741824
def xX(i j:Int):Prop:=(-(2 ^ 64)<i/\i<2 ^ 64)\/(-(2 ^ 64)<j/\j<2 ^ 64)
theorem xX.ok(h:xX i j):IntMulOk i j:=by
 rcases h with⟨h1,h2⟩|⟨h1,h2⟩
 .exact .of_left (intBits_le_64 h1 h2)
 .exact .of_right (intBits_le_64 h1 h2)
theorem Xv:c_ X (binaryOp .Add) (m8 λi j=>.int (i+j)):=MU λ_ _ _ _ _ _ _ q=>add_int q
theorem Yy:c_ X (binaryOp .Sub) (m8 λi j=>.int (i-j)):=MU λ_ _ _ _ _ _ _ q=>sub_int q
theorem VD:c_ X (binaryOp .Mult) (rI xX λi j=>.int (i*j)):=Gx λ_ _ _ _ _ _ _ hc q=>mul_int q hc.ok
theorem afG:c_ X (binaryOp .FloorDiv) (rI agf λi j=>.int (i / j)):=Gx λi j _ _ _ _ _ hc q=>by
 have h1:=hc.1;have h2:j<1073741824:=hc.2;exact floordiv_int (by omega) (by rw[Int.fdiv_eq_ediv_of_nonneg i (by omega)];exact q) (.inl (PyProof.noPylong_small (by omega)))
theorem abJ:c_ X (binaryOp .Mod) (rI (λ_ j=>0<j) λi j=>.int (i % j)):=Gx λi j _ _ _ _ _ hc q=>by
 have h1:=hc;exact mod_int' (by omega) (by rw[Int.fmod_eq_emod_of_nonneg i (by omega)];exact q)
theorem UM{g:Int->Int}
  (rule:∀(i:Int) (t:Tok) (s:Shared) (Q:Value->Shared->Prop) (E:Value->Shared->Prop),Q (.int (g i) s.toks) { s with toks:=s.toks+1 }->Y1 X X.A (f (.int i t)) Q E s) :
  Fw X f (rU λi=>.int (g i)):=by
 intro af s σ H x v Q I rx h;obtain⟨i,rfl,q⟩:=h;exists 79;exact rule i t s _ _ ⟨.int (g i),H,I.tok _,⟨_,rfl⟩,q⟩
theorem Xe:Fw X (unaryOp .USub) (rU λi=>.int (-i)):=UM λ_ _ _ _ _ q=>neg_int q
noncomputable def RQ:V->V->Bool
 |.aA,.aA=>true|.aA,.int _=>true|.int _,.aA=>true|.aA,.bl _=>true|.bl _,.aA=>true|.aA,.str _=>true|.str _,.aA=>true
 |.int _,.int _=>true|.bl _,.bl _=>true|.str _,.str _=>true|.jI _,.jI _=>true
 |.int _,.str _=>true|.str _,.int _=>true|.bl _,.str _=>true|.str _,.bl _=>true
 |_,_=>false
def Mf:R2:=λx y H Q=>RQ x y=true/\Q (.bl (decide (x=y))) H
def N2:R2:=λx y H Q=>RQ x y=true/\Q (.bl (!decide (x=y))) H
theorem B5:decide (V.int i=V.int j)=(i==j):=by
 rw[agX];simp
theorem z_:decide (V.bl i=V.bl j)=(i==j):=by
 rw[agX];simp
theorem AH:decide (V.str i=V.str j)=(i==j):=by
 rw[agX];simp
theorem Qm:decide (V.jI i=V.jI j)=(i.toList==j.toList):=by
 rw[agX];cases i;cases j;simp
theorem dF(I:Inv X af σ H s)(q:Q (.bl k) H)(e:k=k'):EP X af σ Q (.bool k') s:=by
 subst e;exact⟨.bl k,H,I,rfl,q⟩
theorem Ew:c_ X (compareOp .Eq) Mf:=by
 exists 44;obtain⟨hs,q⟩:=h;cases x with
 |aA=>
  cases rx;cases y with
  |aA=>cases ry;exact PySem.EqNone.eq_none_none (dF I q (by simp))
  |bl j=>cases ry;exact PySem.EqNone.eq_none_bool (dF I q (by simp))
  |int j=>obtain⟨t',rfl⟩:=ry;exact PySem.EqNone.eq_none_int (dF I q (by simp))
  |str j=>obtain⟨t',rfl⟩:=ry;exact PySem.EqNone.eq_none_str (dF I q (by simp))
  |_=>exact absurd (show false=true from hs) abz
 |bl i=>
  cases rx;cases y with
  |aA=>cases ry;exact PySem.EqNone.eq_bool_none (dF I q (by simp))
  |bl j=>cases ry;exact eq_bool (dF I q z_)
  |str j=>obtain⟨t',rfl⟩:=ry;exact PySem.EqMixed.eq_bool_str (dF I q (by simp))
  |_=>exact absurd (show false=true from hs) abz
 |int i=>
  exists 79;cases y with
  |aA=>cases ry;exact PySem.EqNone.eq_int_none (dF I q (by simp))
  |int j=>obtain⟨t',rfl⟩:=ry;exact eq_int (dF I q B5)
  |str j=>obtain⟨t',rfl⟩:=ry;exact PySem.EqMixed.eq_int_str (dF I q (by simp))
  |_=>exact absurd (show false=true from hs) abz
 |str i=>
  exists 79;cases y with
  |aA=>cases ry;exact PySem.EqNone.eq_str_none (dF I q (by simp))
  |bl j=>cases ry;exact PySem.EqMixed.eq_str_bool (dF I q (by simp))
  |int j=>obtain⟨t',rfl⟩:=ry;exact PySem.EqMixed.eq_str_int (dF I q (by simp))
  |str j=>obtain⟨t',rfl⟩:=ry;exact eq_str (dF I q AH)
  |_=>exact absurd (show false=true from hs) abz
 |jI i=>
  exists 79;cases y with
  |jI j=>obtain⟨t',rfl⟩:=ry;exact PySem.W.eq_bytes (dF I q Qm)
  |_=>exact absurd (show false=true from hs) abz
 |_=>cases y<;>exact absurd (show false=true from hs) abz
theorem Rb:c_ X (compareOp .NotEq) N2:=by
 exists 44;obtain⟨hs,q⟩:=h;cases x with
 |aA=>
  cases rx;cases y with
  |aA=>cases ry;exact PySem.EqNone.ne_none_none (dF I q (by simp))
  |bl j=>cases ry;exact PySem.EqNone.ne_none_bool (dF I q (by simp))
  |int j=>obtain⟨t',rfl⟩:=ry;exact PySem.EqNone.ne_none_int (dF I q (by simp))
  |str j=>obtain⟨t',rfl⟩:=ry;exact PySem.EqNone.ne_none_str (dF I q (by simp))
  |_=>exact absurd (show false=true from hs) abz
 |bl i=>
  cases rx;cases y with
  |aA=>cases ry;exact PySem.EqNone.ne_bool_none (dF I q (by simp))
  |bl j=>cases ry;exact ne_bool (dF I q (congrArg not z_))
  |str j=>obtain⟨t',rfl⟩:=ry;exact PySem.EqMixed.ne_bool_str (dF I q (by simp))
  |_=>exact absurd (show false=true from hs) abz
 |int i=>
  exists 79;cases y with
  |aA=>cases ry;exact PySem.EqNone.ne_int_none (dF I q (by simp))
  |int j=>obtain⟨t',rfl⟩:=ry;exact ne_int (dF I q (congrArg not B5))
  |str j=>obtain⟨t',rfl⟩:=ry;exact PySem.EqMixed.ne_int_str (dF I q (by simp))
  |_=>exact absurd (show false=true from hs) abz
 |str i=>
  exists 79;cases y with
  |aA=>cases ry;exact PySem.EqNone.ne_str_none (dF I q (by simp))
  |bl j=>cases ry;exact PySem.EqMixed.ne_str_bool (dF I q (by simp))
  |int j=>obtain⟨t',rfl⟩:=ry;exact PySem.EqMixed.ne_str_int (dF I q (by simp))
  |str j=>obtain⟨t',rfl⟩:=ry;exact ne_str (dF I q (congrArg not AH))
  |_=>exact absurd (show false=true from hs) abz
 |jI i=>
  exists 79;cases y with
  |jI j=>obtain⟨t',rfl⟩:=ry;exact PySem.W.ne_bytes (dF I q (congrArg not Qm))
  |_=>exact absurd (show false=true from hs) abz
 |_=>cases y<;>exact absurd (show false=true from hs) abz
theorem KH:c_ X (compareOp .Lt) (m8 λi j=>.bl (decide (i<j))):=Cp λ_ _ _ _ _ _ _ q=>lt_int q
theorem zU:c_ X (compareOp .LtE) (m8 λi j=>.bl (decide (i<=j))):=Cp λ_ _ _ _ _ _ _ q=>le_int q
theorem Rh:c_ X (compareOp .Gt) (m8 λi j=>.bl (decide (j<i))):=Cp λ_ _ _ _ _ _ _ q=>gt_int q
theorem S6:c_ X (compareOp .GtE) (m8 λi j=>.bl (decide (j<=i))):=Cp λ_ _ _ _ _ _ _ q=>ge_int q
theorem Er:c_ X (compareOp .Is) (λx y H Q=>y=.aA/\Q (.bl (decide (x=.aA))) H):=by
 exists 44;obtain⟨rfl,q⟩:=h;cases ry;refine is_none_gen (dF I q ?_);cases x<;>first
  |(cases rx;rfl)
  |(obtain⟨t,rfl⟩:=rx;rfl)
theorem ac6:c_ X (compareOp .IsNot) (λx y H Q=>y=.aA/\Q (.bl (!decide (x=.aA))) H):=by
 exists 44;obtain⟨rfl,q⟩:=h;cases ry;refine isnot_none_gen (dF I q ?_);cases x<;>first
  |(cases rx;rfl)
  |(obtain⟨t,rfl⟩:=rx;rfl)
theorem g_(b:Expr)(h:op≠.In:=by decide)(h2:op≠.NotIn:=by decide):behindInMarks op b=false:=by
 have e1:(op==CmpOp.In)=false:=by cases op<;>first|rfl|exact absurd rfl h
 have e2:(op==CmpOp.NotIn)=false:=by cases op<;>first|rfl|exact absurd rfl h2
 cases b<;>simp[behindInMarks,e1,e2]
theorem Df{r:R2}(ho:c_ X (compareOp op) r)(ha:PE X a ta)(hb:PE X b tb)(hm:behindInMarks op b=false):PE X (.Compare a [op] [b] pos) (uE r ta tb):=by
 exists 47;exact wpAny_Compare1 (ID ha hb I h λv u s2 x y H2 I2 rx ry q=>ho af s2 σ H2 x y v u Q I2 rx ry q) hm
def ZM(t:TE):TT:=λσ H Q=>t σ H λx H'=>∃k,x=.bl k/\Q k H'
theorem KP(ho:c_ X (compareOp op) r)(ha:PE X a ta)(hb:PE X b tb)(hm:behindInMarks op b=false):PT X (.Compare a [op] [b] pos) (ZM (uE r ta tb)):=by
 exists 47;refine wpAny_isTrue_Compare1 (aM (ha af s σ H _ I h) λv s1 ⟨x,H1,I1,r1,q1⟩=>aM (hb af s1 σ H1 _ I1 q1) λu s2 ⟨y,H2,I2,r2,q2⟩=>
  aM (ho af s2 σ H2 x y v u _ I2 r1 r2 q2) λc s3 ⟨z,H3,I3,r3,k,e,q3⟩=>?_) hm
 subst e;cases r3;exact afg ⟨H3,I3,q3⟩
def acY(r r':R2)(ta tb tc:TE):TE:=λσ H Q=>ta σ H λx H1=>tb σ H1 λy H2=>r x y H2 λz H3=>∃k,z=.bl k/\
 (if k=true then tc σ H3 λw' H4=>r' y w' H4 Q else Q (.bl false) H3)
theorem aaC(ho:c_ X (compareOp op) r)(lA:c_ X (compareOp yQ) r')(ha:PE X a ta)(hb:PE X b tb)(hc:PE X c tc)
  (hm:lastMarks [op,yQ] [b,c]=false:=by with_unfolding_all rfl):PE X (.Compare a [op,yQ] [b,c] pos) (acY r r' ta tb tc):=by
 exists 47;refine Compare_chain (aM (ha af s σ H _ I h) λv s1 ⟨x,H1,I1,r1,q1⟩=>chain_link (aM (hb af s1 σ H1 _ I1 q1) λu s2 ⟨y,H2,I2,r2,q2⟩=>
  aM (ho af s2 σ H2 x y v u _ I2 r1 r2 q2) λd s3 ⟨z,H3,I3,r3,k,e,q3⟩=>?_)) hm
 subst e;cases r3;refine afg ?_;cases k with
 |false=>exact ite_ff ⟨.bl false,H3,I3,rfl,q3⟩
 |true=>exact ite_tt (chain_last (aM (hc af s3 σ H3 _ I3 q3) λw' s4 ⟨z',H4,I4,r4,q4⟩=>lA af s4 σ H4 y z' u w' Q I4 r2 r4 q4))
def Rm(K:PySem.W.Frag)(x:V)(H:Hp)(k:Bool):Prop:=
 match x with
 |.aA=>k=false
 |.bl b=>k=b
 |.int i=>k=(i != 0)
 |.str y=>y.length<=sizeLine/\k=((y.length:Int) != 0)
 |.jI y=>y.size<=sizeLine/\k=((y.size:Int) != 0)
 |.ref p=>(∃xs,bZ K H p xs/\k=!xs.isEmpty)\/(∃xs,ck K H p xs/\k=!xs.isEmpty)\/∃ak,H p=some (.dK ak)/\k=!ak.isEmpty
 |_=>False
theorem aaB(r:KV ak vs):(!vs.isEmpty)=!ak.isEmpty:=by
 cases r<;>rfl
theorem Qw(r:aU xs au):(!au.toArray.isEmpty)=!xs.isEmpty:=by
 cases r<;>simp
theorem xh:(sizeLine:Nat)<2 ^ 63:=by rw[aeV];decide
theorem ae9:V7 X (λx H Q=>∃k,Rm X.K x H k/\Q k H):=by
 intro af s σ H x v Q I rx h;obtain⟨k,e,q⟩:=h;have hl:=xh;have hs:=aeV;cases x with
 |aA=>
  cases rx;have e':=e;subst e';exact truthy_none ⟨H,I,q⟩
 |bl b=>
  cases rx;have e':=e;subst e';exact afg ⟨H,I,q⟩
 |int i=>
  exists 79;have e':=e;subst e';exact PySem.P.truthy_int ⟨H,I,q⟩
 |str y=>
  exists 79;obtain⟨hy,e'⟩:y.length<=sizeLine/\k=((y.length:Int) != 0):=e;subst e';exact PySem.P.truthy_str (by omega) ⟨H,I.tok _,q⟩
 |jI y=>
  exists 79;obtain⟨hy,e'⟩:y.size<=sizeLine/\k=((y.size:Int) != 0):=e;subst e';exact PySem.W.truthy_bytes (by omega) ⟨H,I.tok _,q⟩
 |ref p=>
  cases rx;have e':=e;rcases e' with⟨xs,hx,e'⟩|⟨xs,hx,e'⟩|⟨ak,hx,e'⟩
  .subst e';obtain⟨au,r,pl,hz⟩:=I.list hx;have hlen:=r.length;exact wpAny_truthy_list pl.isList (by simp only[ab2];omega) ⟨H,I.tok _,by rw[Qw r];exact q⟩
  .subst e';obtain⟨au,r,pl,hz⟩:=I.tuple hx;have hlen:=r.length;exact truthy_tuple pl (by simp only[ab2];omega) ⟨H,I.tok _,by rw[Qw r];exact q⟩
  .subst e';obtain⟨hz,hS,vs,r,m⟩:ak.length<=sizeLine/\(p==sysModules)=false/\∃vs,KV ak vs/\s.heap.DictOf (gQ X.prog X.w) p vs:=I.aE p _ hx;have hlen:=Paired.length r;exact wpAny_truthy_dict hS m (by omega) ⟨H,I.tok _,by rw[aaB r];exact q⟩
 |_=>exact(show False from e).elim
theorem WB(ha:PE X a ta)(he:∀whole,isTrue a X.env whole=(do let v <- whole;standAt a.pos;holding [v] (truthy v))):
  PT X a (λσ H Q=>ta σ H λx H'=>∃k,Rm X.K x H' k/\Q k H'):=by
 exists 47;exact isTrue_plain (aM (ha af s σ H _ I h) λv s1 ⟨x,H1,I1,r1,q1⟩=>ae9 af s1 σ H1 x v Q I1 r1 q1) (he _)
theorem vals1(r:aU [x] us):∃u,us=[u]/\RelV x u:=by
 cases r with
 |cons r1 r2=>cases r2;exact⟨_,rfl,r1⟩
theorem vals2(r:aU [x,y] us):∃u w',us=[u,w']/\RelV x u/\RelV y w':=by
 cases r with
 |cons r1 r2=>
  cases r2 with
  |cons r3 r4=>cases r4;exact⟨_,_,rfl,r1,r3⟩
theorem Xm(hc:X.calm=true):fX X (.builtin "max") (λxs H Q=>∃i j,xs=[.int i,.int j]/\Q (.int (if j > i then j else i)) H):=by
 exists 45;obtain⟨i,j,rfl,q⟩:=h;obtain⟨u,w',rfl,⟨t,rfl⟩,⟨t',rfl⟩⟩:=vals2 r;refine max_two_ints (I.ok.hd hc) λh' tk k=>⟨_,H,I.kept k,?_,q⟩
 by_cases hj:j > i
 .rw[if_pos hj,if_pos hj];exact⟨_,rfl⟩
 .rw[if_neg hj,if_neg hj];exact⟨_,rfl⟩
theorem XM(hc:X.calm=true):fX X (.builtin "min") (λxs H Q=>∃i j,xs=[.int i,.int j]/\Q (.int (if j<i then j else i)) H):=by
 exists 45;obtain⟨i,j,rfl,q⟩:=h;obtain⟨u,w',rfl,⟨t,rfl⟩,⟨t',rfl⟩⟩:=vals2 r;refine min_two_ints (I.ok.hd hc) λh' tk k=>⟨_,H,I.kept k,?_,q⟩
 by_cases hj:j<i
 .rw[if_pos hj,if_pos hj];exact⟨_,rfl⟩
 .rw[if_neg hj,if_neg hj];exact⟨_,rfl⟩
structure sS(h:Heap)(x dx C:Addr)(mA:Str->Option Value):Prop where
 obj:h.get? x=some (PySem.W.instObj C dx)
 ns:h.Ns1 dx mA
 ne:dx≠x
theorem abf{h:Heap}(n:h.Ns1 dx mA):∃od,h.get? dx=some od/\∀name,PySem.W.lookIn name od=some (mA name):=by
 obtain⟨o,es,ep,ho,hd,hk,_,hm⟩:=n;refine⟨o,ho,λname=>?_⟩;have e:=hm name;unfold nsFind findBy at e;rw[<- Array.find?_toList] at e;unfold PySem.W.lookIn;rw[hd];dsimp only
 split
 .rename_i y q;rw[q] at e;exact congrArg some e
 .rename_i q;rw[q] at e;have a:es.toList.any (·.refKey)=false:=by
   rw[List.any_eq_false];intro y hy;obtain⟨z,t,yJ⟩:=hk y (Array.mem_toList_iff.mp hy);simp[DictEntry.refKey,yJ]
  have a':¬es.toList.any (·.refKey)=true:=by rw[a];exact abz
  rw[if_neg a'];exact congrArg some e
theorem sS.look(I:sS h x dx C mA):∃od,PySem.W.InstAt h x (PySem.W.instObj C dx) C (some od)/\∀name,PySem.W.lookIn name od=some (mA name):=
 let⟨od,ho,hl⟩:=abf I.ns
 ⟨od,⟨I.obj,rfl,rfl,ho⟩,hl⟩
section
variable{K:PySem.W.Frag}
theorem get_map(X:K.In s.heap)(I:sS s.heap x dx C mA)(hg:PySem.W.plainGet K C name=true)(hh:PySem.W.hasDictIn K C=true)
  (ha:PySem.W.findIn K (.ref C) name=some none) (hv:mA name=some v) (jR:PySem.W.handedIn v=true) (h:Q v { s with toks:=s.toks+1 }) :
  wpAny (model prog w) A (getAttr (.ref x) name expr) Q E s:=by
 obtain⟨od,J,hl⟩:=I.look;exact PySem.W.get_value X J (PySem.W.plainGet_of hg).1 (PySem.W.findObj_own hh ha rfl (by rw[hl,hv])) jR h
theorem VN(X:K.In s.heap)(I:sS s.heap x dx C mA)(hg:PySem.W.plainGet K C name=true)
  (hf:PySem.W.findIn K (.ref C) name=some (some (.ref f))) (ht:PySem.W.isFn K (.ref f)=true) (hv:mA name=none) (h:Q (.ref f,[.ref x]) s) :
  wpAny (model prog w) A (getMethod (.ref x) name pl) Q E s:=by
 obtain⟨od,J,hl⟩:=I.look;exact PySem.W.method_fn X J (PySem.W.plainGet_of hg).1 (PySem.W.plainGet_of hg).2 hf (afJ.mp ht) (by show(PySem.W.lookIn name od).map (·.isSome)=some false;rw[hl,hv];rfl) h
theorem ac7(X:K.In s.heap)(I:sS s.heap x dx C mA)
  (hs:PySem.W.findIn K (.ref C) "__setattr__"=some (some (.builtin "object.__setattr__"))) (hp:PySem.W.plainOver K C=true) (ht:PySem.W.takerIn K C name=some none) (hh:PySem.W.hasDictIn K C=true)
  (hw:PySem.Within mA ns) (hsz:ns.length<=sizeLine)
  (h:∀h',sS h' x dx C (λy=>if y=name then some v else mA y)->Heap.SameBut dx s.heap h'->Q () { s with heap:=h',toks:=s.toks+2 }) :
  wpAny (model prog w) A (setAttr (.ref x) name v) Q E s:=by
 obtain⟨od,J,hl⟩:=I.look;refine PySem.W.set_plain X J hs (PySem.W.osa_open (r:=none) X J hp ht λb=>?_);obtain⟨cd,hc,DX⟩:=PySem.W.any_some hh;have hx:=I.obj;refine aa7 (acD (aa7 (aa7 (wpAny_loadPart hx (aa7 (PySem.W.Looks.here (PySem.W.looks_clsIn X hc) ?_))))));rw[DX];refine acD (aa7 (acD (aa7 ?_)));refine wpAny_nsSet1 I.ns λh' tU cJ=>?_
 obtain⟨oD,esD,epD,Ek,Xq,hcD⟩:=tU.count (PySem.Within.cons name v hw);refine aa7 (wpAny_lookBehind Ek (by rw[Xq];exact pastItsLine_dict (adE hcD (by rw[acf];omega))) ?_);exact acD (h _ ⟨(cJ.2 _ (afr I.ne)).trans I.obj,tU,I.ne⟩ cJ)
theorem YJ(X:K.In s.heap)(hm:PySem.W.makesIn K C=true)
  (hi:PySem.W.findIn K (.ref C) "__init__"=some (some (.ref f))) (hf:PySem.W.typeIn K (.ref f)=some (.type "function"))
  (h:codeAny (model prog w) (A.under (.builtin "type.__call__" ⟨.ref C::vs,kw⟩)) (.call (.ref f) ⟨.ref (s.heap.objs.size + 1)::vs,kw⟩) (PySem.W.InitBack (s.heap.objs.size + 1) R)
   { s with heap:=(s.heap.push PySem.W.emptyDict).push (PySem.W.instObj C s.heap.objs.size) }) :
  codeAny (model prog w) A (.call (.ref C) ⟨vs,kw⟩) R s:=by
 obtain⟨hh,g,d,t,os⟩:=s;exact PySem.W.make_core (PySem.W.makes_of X hm) (PySem.W.looks_findIn X hi) (λself=>PySem.W.bind_fn X self hf) (.inl rfl) h
end
noncomputable def fq(f:Str)(v:V):List (Str×V)->List (Str×V)
 |[]=>[(f,v)]
 |(g,x)::r=>if g=f then(g,v)::r else(g,x)::fq f v r
theorem Rw(f g:Str)(v:V):∀fs:List (Str×V),(fq f v fs).lookup g=if g=f then some v else fs.lookup g
 |[]=>by
  show List.lookup g [(f,v)]=_
  by_cases h:g=f
  .have hb:=afJ.mpr h;simp only[List.lookup,hb,if_pos h]
  .have hb:=ado.mpr h;simp only[List.lookup,hb,if_neg h]
 |(k,x)::r=>by
  have ih:=Rw f g v r;exists 63
  by_cases hk:k=f
  .rw[if_pos hk]
   by_cases h:g=k
   .have hb:=afJ.mpr h;simp only[List.lookup,hb,if_pos (h.trans hk)]
   .have hb:=ado.mpr h;simp only[List.lookup,hb,if_neg (λe:g=f=>h (e.trans hk.symm))]
  .rw[if_neg hk]
   by_cases h:g=k
   .have hb:=afJ.mpr h;simp only[List.lookup,hb,if_neg (λe:g=f=>hk (h.symm.trans e))]
   .have hb:=ado.mpr h;simp only[List.lookup,hb];exact ih
theorem FF(f:Str)(v:V):∀fs:List (Str×V),f∈(fq f v fs).map (·.1)/\∀g,g∈fs.map (·.1)->g∈(fq f v fs).map (·.1)
 |[]=>⟨by simp[fq],λg h=>by simp at h⟩
 |(k,x)::r=>by
  obtain⟨i1,i2⟩:=FF f v r;exists 63
  by_cases hk:k=f
  .rw[if_pos hk];subst hk;exact⟨by simp,λg h=>by simpa using h⟩
  .rw[if_neg hk];refine⟨?_,λg h=>?_⟩
   .rw[aas];exact aaa _ i1
   .rw[aas] at h ⊢;rcases abb.mp h with e|e
    .exact abb.mpr (.inl e)
    .exact aaa _ (i2 g e)
theorem Nx(f:Str)(v:V):∀fs:List (Str×V),(fq f v fs).length<=fs.length+1
 |[]=>by simp[fq]
 |(k,x)::r=>by
  have ih:=Nx f v r;exists 63
  by_cases hk:k=f
  .rw[if_pos hk,acf,acf];omega
  .rw[if_neg hk,acf,acf];omega
theorem g8.some_of(r:g8 (some v) o):∃u,o=some u/\RelV v u:=by
 cases o with
 |none=>exact(show False from r).elim
 |some u=>exact⟨u,rfl,r⟩
theorem g8.none_of(r:g8 none o):o=none:=by
 cases o with
 |none=>rfl
 |some u=>exact(show False from r).elim
theorem Yx(r:RelV v u):PySem.W.handedIn u=true:=by
 cases v with
 |aA=>cases(show u=Value.none from r);rfl
 |bl b=>cases(show u=Value.bool b from r);rfl
 |int i=>obtain⟨t,e⟩:=(show ∃t,u=Value.int i t from r);cases e;rfl
 |str x=>obtain⟨t,e⟩:=(show ∃t,u=Value.str x t from r);cases e;rfl
 |jI b=>obtain⟨t,e⟩:=(show ∃t,u=Value.bytes b t from r);cases e;rfl
 |sR b=>obtain⟨t,e⟩:=(show ∃t,u=Value.float b t from r);cases e;rfl
 |ref a=>cases(show u=Value.ref a from r);rfl
 |ty n=>cases(show u=Value.type n from r);rfl
theorem Ad(aE:cM P w H h)(e:H a=some (.ins C dx fs)):∃mA,sS h a dx C mA/\(∀f,g8 (fs.lookup f) (mA f))/\PySem.Within mA (fs.map (·.1))/\fs.length<=1000/\H dx=some (.own a):=by
 obtain⟨d,z,ne,ob,mA,n,r,q⟩:=(show di P w H h a (.ins C dx fs) from aE a _ e)
 exact⟨mA,⟨ob,n,ne⟩,r,q,z,d⟩
structure kC(K:PySem.W.Frag)(C:Addr):Prop where
 pg:PySem.W.plainGet K C Str.empty=true
 hd:PySem.W.hasDictIn K C=true
 po:PySem.W.plainOver K C=true
 sa:PySem.W.findIn K (.ref C) "__setattr__"=some (some (.builtin "object.__setattr__"))
theorem kC.get{K:PySem.W.Frag}(c:kC K C)(f:Str):PySem.W.plainGet K C f=true:=c.pg
def jr(K:PySem.W.Frag)(C:Addr)(f:Str):Prop:=PySem.W.findIn K (.ref C) f=some none
theorem jr.acT{K:PySem.W.Frag}(n:jr K C f):PySem.W.takerIn K C f=some none:=by
 unfold PySem.W.takerIn;rw[show PySem.W.findIn K (.ref C) f=some none from n];rfl
structure kG(K:PySem.W.Frag)(C:Addr)(m:Str)(f:Addr):Prop where
 at_:PySem.W.findIn K (.ref C) m=some (some (.ref f))
 fn:PySem.W.isFn K (.ref f)=true
 kp:PySem.W.keepIn K (.ref f)=true
theorem NB(I:Inv X af σ H s)(e:H a=some (.ins C dx fs))(c:kC X.K C)(n:jr X.K C f)(l:fs.lookup f=some v)
  (h:∀u s',Inv X af σ H s'->RelV v u->Q u s'):wpAny (model X.prog X.w) A (getAttr (.ref a) f b) Q E s:=by
 obtain⟨mA,O,r,_,_,_⟩:=Ad I.aE e;obtain⟨u,hu,ru⟩:=g8.some_of (by rw[<- l];exact r f);exact get_map I.c8 O (c.get f) c.hd n hu (Yx ru) (h u _ (I.tok _) ru)
theorem J6(I:Inv X af σ H s)(e:H a=some (.ins C dx fs))(c:kC X.K C)(k:kG X.K C m g)(l:fs.lookup m=none)
  (h:Q (.ref g,[.ref a]) s):wpAny (model X.prog X.w) A (getMethod (.ref a) m pl) Q E s:=by
 obtain⟨mA,O,r,_,_,_⟩:=Ad I.aE e;have hn:=g8.none_of (by rw[<- l];exact r m);exact VN I.c8 O (c.get m) k.at_ k.fn hn h
theorem Lg(I:Inv X af σ H s)(e:H a=some (.ins C dx fs))(c:kC X.K C)(n:jr X.K C f)(hl:fs.length<1000)(ry:RelV y u)
  (h:∀s',Inv X af σ (upd H a (.ins C dx (fq f y fs))) s'->Q () s'):wpAny (model X.prog X.w) A (setAttr (.ref a) f u) Q E s:=by
 obtain⟨mA,O,r,wi,_,ho⟩:=Ad I.aE e;have hz:(fs.map (·.1)).length<=sizeLine:=by rw[List.length_map,aeV];omega
 refine ac7 I.c8 O c.sa c.po n.acT c.hd wi hz λh' O' sb=>h _ ?_
 have hd:∃o,h'.get? dx=some o:=let⟨o,_,_,e',_⟩:=O'.ns;⟨o,e'⟩
 refine I.write (by rw[e];exact True.intro) (.inr ho) (λb q hb z=>(sb.2 b hb).trans z) hd ?_;refine⟨by rw[aP O.ne];exact ho,?_,O.ne,O'.obj,_,O'.ns,λg=>?_,λg hg=>?_⟩
 .have:=Nx f y fs;omega
 .show g8 ((fq f y fs).lookup g) (if g=f then some u else mA g);rw[Rw]
  by_cases q:g=f
  .rw[if_pos q,if_pos q];exact ry
  .rw[if_neg q,if_neg q];exact r g
 .by_cases q:g=f
  .rw[q];exact(FF f y fs).1
  .refine(FF f y fs).2 g (wi g λz=>hg ?_);show(if g=f then some u else mA g)=none;rw[if_neg q];exact z
theorem Inv.made(I:Inv X af σ H s):Inv X af σ (upd (upd H s.heap.objs.size (.own (s.heap.objs.size+1))) (s.heap.objs.size+1) (.ins C s.heap.objs.size []))
  { s with heap:=(s.heap.push PySem.W.emptyDict).push (PySem.W.instObj C s.heap.objs.size) }:=by
 have e1:(s.heap.push PySem.W.emptyDict).get? s.heap.objs.size=some PySem.W.emptyDict:=ab3 s.heap rfl;have e2:((s.heap.push PySem.W.emptyDict).push (PySem.W.instObj C s.heap.objs.size)).get? (s.heap.objs.size+1)=some (PySem.W.instObj C s.heap.objs.size):=by
  have:=ab3 (s.heap.push PySem.W.emptyDict) (o:=PySem.W.instObj C s.heap.objs.size) rfl
  rwa [agU] at this
 have e3:(s.heap.push PySem.W.emptyDict).Ns s.heap.objs.size (λ_=>none):=⟨PySem.W.emptyDict,#[],_,e1,rfl,(λe he=>absurd he (by simp)),λ_=>rfl⟩
 have I1:=I.laid (o:=.own (s.heap.objs.size+1)) (t':=s.toks) (λb u q=>aaT _ q) (abT _) ⟨_,e1⟩;refine I1.laid (λb u q=>aaT _ q) (Nat.le_of_eq (agU _ _)) ?_;have ne:s.heap.objs.size≠s.heap.objs.size+1:=acI (agP _);refine⟨by rw[aP ne,cB],aes _,ne,e2,λ_=>none,(Heap.Ns1.of_empty e3).at λo q=>aaT _ q,λ_=>True.intro,λy hy=>absurd rfl hy⟩
theorem Z_(hb:attributeBase e f env (eval e env)=eval e env)
  (h:wpAny (model prog w) A (eval e env) (λo bO=>wpAny (model prog w) A (getAttr o f true) Q E bO) E s):wpAny (model prog w) A (eval (.Attribute e f pos) env) Q E s:=
 Attribute_any_ h (by rw[arm_eval_Attribute,hb])
def aag(K:PySem.W.Frag)(ta:TE)(f:Str):TE:=λσ H Q=>ta σ H λx H1=>∃a C dx fs v,x=.ref a/\H1 a=some (.ins C dx fs)/\kC K C/\jr K C f/\fs.lookup f=some v/\Q v H1
def abG(K:PySem.W.Frag)(ta tv:TE)(f:Str):TS:=λD σ H=>tv σ H λy H1=>ta σ H1 λx H2=>∃a C dx fs,x=.ref a/\H2 a=some (.ins C dx fs)/\kC K C/\jr K C f/\fs.length<1000/\
 D.nx σ (upd H2 a (.ins C dx (fq f y fs)))
def Lx(X:Cx)(op:Operator)(rd:V->V->Hp->VK->Prop):Prop:=
 ∀(af) (s) (σ) (H) (x y) (u v) (Q),Inv X af σ H s->RelV x u->RelV y v->rd x y H Q->Y1 X X.A (inplaceOp op u v) (EP X af σ Q) X.xe s
def Xx(K:PySem.W.Frag)(ta tv:TE)(rd:V->V->Hp->VK->Prop)(f:Str):TS:=λD σ H=>ta σ H λx H1=>∃a C dx fs v,x=.ref a/\H1 a=some (.ins C dx fs)/\kC K C/\jr K C f/\fs.lookup f=some v/\
 tv σ H1 λy H2=>rd v y H2 λz H3=>∃xH uV,H3 a=some (.ins C xH uV)/\uV.length<1000/\D.nx σ (upd H3 a (.ins C xH (fq f z uV)))
theorem vV(he:PE X e ta)(hb:attributeBase e f X.env (eval e X.env)=eval e X.env):PE X (.Attribute e f pos) (aag X.K ta f):=by
 exists 47;refine Z_ hb (aM (he af s σ H _ I h) λu s1 ⟨x,H1,I1,rx,a,C,dx,fs,v,ex,ea,c,n,l,q⟩=>?_);subst ex;exists 66;exact NB I1 ea c n l λu' s2 I2 ru=>⟨v,H1,I2,ru,q⟩
theorem adP(ha:PE X o ta)(hv:PE X value tv)(hs:swapsWith value (some (.Attribute o f pos')) pos.line X.env=pure false):PS X (.Assign [.Attribute o f pos'] value pos) (abG X.K ta tv f):=by
 exists 48;refine plainObj_wpAny_Assign_Attribute (aM (hv af s σ H _ I h) λu s1 ⟨y,H1,I1,ry,q⟩=>aM (ha af s1 σ H1 _ I1 q) λov s2 ⟨x,H2,I2,rx,a,C,dx,fs,ex,ea,c,n,l,q2⟩=>?_) hs;subst ex;obtain rfl:ov=Value.ref a:=rx;exact Lg I2 ea c n l ry λs3 I3=>⟨σ,_,I3,q2⟩
theorem afq(ha:PE X o ta)(hv:PE X value tv)(Z0:Lx X op rd):PS X (.AugAssign (.Attribute o f agO) op value pos) (Xx X.K ta tv rd f):=by
 exists 48;refine wpAny_AugAssign_AttributeAny (aM (ha af s σ H _ I h) λov s1 ⟨x,H1,I1,rx,a,C,dx,fs,v,ex,ea,c,n,l,q⟩=>?_);subst ex;obtain rfl:ov=Value.ref a:=rx;refine NB I1 ea c n l λu s2 I2 ru=>aM (hv af s2 σ H1 _ I2 q) λw3 s3 ⟨y,H2,I3,ry,q3⟩=>aM (Z0 af s3 σ H2 v y u w3 _ I3 ru ry q3) λw4 s4 ⟨z,H3,I4,rz,xH,uV,ea',l',q4⟩=>?_
 exact Lg I4 ea' c n l' rz λs5 I5=>⟨σ,_,I5,q4⟩
def ac5:V->V->Hp->VK->Prop:=λx y H Q=>∃i j,x=.int i/\y=.int j/\Q (.int (i+j)) H
theorem adX:Lx X .Add ac5:=by
 rintro af s σ H x y u v Q I rx ry ⟨i,j,rfl,rfl,q⟩
 obtain⟨t,rfl⟩:=(show ∃t,u=Value.int i t from rx)
 obtain⟨t',rfl⟩:=(show ∃t',v=Value.int j t' from ry)
 exact PyProof.Rows.iadd_int ⟨.int (i+j),H,I.tok _,⟨_,rfl⟩,q⟩
inductive jv(K:PySem.W.Frag)(H:Hp):V->Value->Prop where
 |aA:jv K H .aA (.type "NoneType")
 |bl (x:Bool):jv K H (.bl x) (.type "bool")
 |int (i:Int):jv K H (.int i) (.type "int")
 |str (x:Str):jv K H (.str x) (.type "str")
 |sR (x:UInt64):jv K H (.sR x) (.type "float")
 |lst {a:Addr}{xs:List V} (e:H a=some (.lst xs)):jv K H (.ref a) (.type "list")
 |eU {a:Addr}{o:Obj}{xs:List V} (e:H a=some (.eU o (.lst xs))):jv K H (.ref a) (.type "list")
 |tup {a:Addr}{xs:List V} (e:H a=some (.tup xs)):jv K H (.ref a) (.type "tuple")
 |dK {a:Addr}{ak:List (Key×V)} (e:H a=some (.dK ak)):jv K H (.ref a) (.type "dict")
 |dT {a:Addr}{ak:List (List Key×V)} (e:H a=some (.dT ak)):jv K H (.ref a) (.type "dict")
 |ins {a C dx:Addr}{fs:List (Str×V)} (e:H a=some (.ins C dx fs)) (cl:kC K C) (ha:PySem.W.findIn K (.ref C) "__class__"=some (some (.builtin "object.__class__")))
   (hn:PySem.W.specialIn K (.builtin "object.__class__") "__get__"=some (some (.builtin "getset_descriptor.__get__"))) (QN:PySem.W.takesIn K (.builtin "object.__class__")=some true)
   (hm:PySem.W.mroIn K C (.type "object")=some true):jv K H (.ref a) (.ref C)
theorem Tj(I:Inv X af σ H s)(rx:RelV x u)(ty:jv X.K H x t)(e:PySem.W.kitOne X.K t c=some b)(h:∀tk,Q (.bool b) { s with toks:=tk }):
  wpAny (model X.prog X.w) A (call (.builtin "isinstance") [u,c]) Q E s:=by
 cases ty with
 |aA=>cases(show u=Value.none from rx);exact PySem.W.kia_one PySem.W.kitx_none I.c8 True.intro e (λz=>nomatch z) h
 |bl y=>cases(show u=Value.bool y from rx);exact PySem.W.kia_one PySem.W.kitx_bool I.c8 True.intro e (λz=>nomatch z) h
 |int i=>obtain⟨t,q⟩:=(show ∃t,u=Value.int i t from rx);cases q;exact PySem.W.kia_one PySem.W.kitx_int I.c8 True.intro e (λz=>nomatch z) h
 |str y=>obtain⟨t,q⟩:=(show ∃t,u=Value.str y t from rx);cases q;exact PySem.W.kia_one PySem.W.kitx_str I.c8 True.intro e (λz=>nomatch z) h
 |sR y=>obtain⟨t,q⟩:=(show ∃t,u=Value.float y t from rx);cases q;exact PySem.W.kia_one PySem.W.kitx_float I.c8 True.intro e (λz=>nomatch z) h
 | @lst a xs ea=>
  exists 83;obtain⟨_,_,n,_,h1⟩:=(show di X.prog X.w H s.heap a (.lst xs) from I.aE a _ ea)
  exact PySem.W.kia_one PySem.W.kitx_list I.c8 ⟨_,h1,rfl⟩ e (λz=>nomatch z) h
 | @eU a ob xs ea=>
  exists 83;obtain⟨_,_,_,n,_,h1⟩:=(show di X.prog X.w H s.heap a (.eU ob (.lst xs)) from I.aE a _ ea)
  exact PySem.W.kia_one PySem.W.kitx_list I.c8 ⟨_,h1,rfl⟩ e (λz=>nomatch z) h
 | @tup a xs ea=>
  exists 83;obtain⟨_,_,_,p⟩:=(show di X.prog X.w H s.heap a (.tup xs) from I.aE a _ ea)
  obtain⟨o,h1,h2,_⟩:=p;exact PySem.W.kia_one PySem.W.kitx_tuple I.c8 ⟨o,h1,h2⟩ e (λz=>nomatch z) h
 | @dK a ak ea=>
  exists 83;obtain⟨_,_,vs,_,p⟩:=(show di X.prog X.w H s.heap a (.dK ak) from I.aE a _ ea)
  obtain⟨o,es,ep,h1,h2,_⟩:=p;exact PySem.W.kia_one PySem.W.kitx_dict I.c8 ⟨o,h1,h2.1⟩ e (λz=>nomatch z) h
 | @dT a ak ea=>
  exists 83;obtain⟨_,_,xs,_,o,es,ep,h1,h2,_⟩:=(show di X.prog X.w H s.heap a (.dT ak) from I.aE a _ ea)
  exact PySem.W.kia_one PySem.W.kitx_dict I.c8 ⟨o,h1,h2.1⟩ e (λz=>nomatch z) h
 | @ins a C dx fs ea cl ha hn QN hm=>
  exists 83;obtain⟨mA,O,_⟩:=Ad I.aE ea;obtain⟨od,J,_⟩:=O.look;exact PySem.W.kia_one (PySem.W.kitx_own (cl.get _) cl.hd ha hn QN hm) I.c8 J e (λz=>nomatch z) h
structure bu(k:Nat)(A:Around)(cm:Bool:=true):Prop where
 hd:cm=true->A.handled=none
 dp:A.depth+3*k+5<recursionLimit
 un:A.units+16*k+200<cLine
 gd:A.guards=some []
theorem bu.mono(r:bu k A cm)(h:j<=k):bu j A cm:=⟨r.hd,by have:=r.dp;omega,by have:=r.un;omega,r.gd⟩
theorem bu.deeper(r:bu (k+1) A cm)(env:Env):bu k (A.deeper env) cm:=
 ⟨r.hd,by have:=r.dp;show A.depth+1+3*k+5<_;omega,by have:=r.un;show A.units+3+16*k+200<_;omega,r.gd⟩
theorem bu.in1(r:bu (k+1) A cm):bu k A.in1 cm:=
 ⟨r.hd,by have:=r.dp;show A.depth+3*k+5<_;omega,by have:=r.un;show A.units+1+16*k+200<_;omega,r.gd⟩
theorem adT{A:Around}:(A.under (.builtin "type.__call__" ⟨.ref C::us,kw⟩)).depth=A.depth+1:=by
 first|rfl|simp[Around.under,Code.weight,Code.isCreation,Code.isGuard,Code.isCaller,Code.frames,Code.isFrame,guardIds]
theorem aaq{A:Around}:(A.under (.builtin "type.__call__" ⟨.ref C::us,kw⟩)).units=A.units+1:=by
 first|rfl|simp[Around.under,Code.cUnits,Code.frames,Code.isFrame]
theorem bu.make(r:bu (k+1) A cm)(C:Addr)(us:List Value)(kw:List (Str×Value)):bu k (A.under (.builtin "type.__call__" ⟨.ref C::us,kw⟩)) cm:=
 ⟨r.hd,by have:=r.dp;rw[adT];omega,by have:=r.un;rw[aaq];omega,by first|exact r.gd|(simp[Around.under,Code.guards,Code.isGuard,guardIds,pushGuards];exact r.gd)⟩
theorem bu.depth(r:bu k A cm):A.depth<recursionLimit:=by have:=r.dp;omega
theorem bu.units(r:bu k A cm):A.units+64<cLine:=by have:=r.un;omega
def CQ:TA:=λ_ H Q=>Q [] H
def K7(ta:TE)(tr:TA):TA:=λσ H Q=>ta σ H λx H1=>tr σ H1 λxs H2=>Q (x::xs) H2
theorem eT:PA X [] CQ:=λ_ _ _ _ H Q I h=>Calls.spliced_nil ⟨[],H,I,.nil,h⟩
theorem cP(ha:PE X e te)(hr:PA X es t)(hs:starEach (e::es) X.env=(false,eval e X.env)::starEach es X.env:=by rfl):PA X (e::es) (K7 te t):=by
 intro pos af s σ H Q I h;rw[hs];refine Calls.spliced_cons (aM (ha af s σ H _ I h) λu s1 ⟨x,H1,I1,r1,q1⟩=>?_);exact aM (hr pos af s1 σ H1 _ I1 q1) λus s2 ⟨xs,H2,I2,r2,q2⟩=>⟨x::xs,H2,I2,.cons r1 r2,q2⟩
def aaY(t:TA):TE:=λσ H Q=>t σ H λxs H1=>xs.length<=sizeLine/\∀p,H1 p=none->Q (.ref p) (upd H1 p (.tup xs))
def sM(t:TA):TE:=λσ H Q=>t σ H λxs H1=>xs.length<=sizeLine/\∀p,H1 p=none->Q (.ref p) (upd H1 p (.lst xs))
theorem PL{x1}(h:PA X es t):PE X (.Tuple es x1 pos) (aaY t):=by
 intro af s σ H Q I hq;refine wpAny_Tuple_spliced (aM (h pos af s σ H _ I hq) λus s1 ⟨xs,H1,I1,r,z,q⟩=>⟨by rw[<- r.length];exact z,?_⟩);have hf:=I1.aE.fresh (abT _);refine⟨.ref s1.heap.objs.size,upd H1 s1.heap.objs.size (.tup xs),I1.laid (λb u e=>aaT _ e) (abT _) ?_,rfl,q _ hf⟩;exact⟨z,us,r,⟨_,ab3 _ rfl,rfl,rfl,_,rfl⟩⟩
theorem VE(h:PA X es t):PE X (.List es pos) (sM t):=by
 intro af s σ H Q I hq;refine wpAny_List_spliced (aM (h pos af s σ H _ I hq) λus s1 ⟨xs,H1,I1,r,z,q⟩=>⟨by rw[<- r.length];exact z,?_⟩);have hf:=I1.aE.fresh (abT _);refine⟨.ref s1.heap.objs.size,upd H1 s1.heap.objs.size (.lst xs),I1.laid (λb u e=>aaT _ e) (abT _) ?_,rfl,q _ hf⟩;exact⟨z,us,0,r,ab3 _ rfl⟩
abbrev Sp:=List V->Hp->VK->XK->Prop
abbrev qf:=List Env->Hp->Shared->XK->Value->Shared->Prop
structure tN(P:Program)(w:World)(K:PySem.W.Frag)(mg:Str->Option Value)(base:Heap)(A:Around)(outer:List Env)(s:Shared)(H:Hp):Prop where
 frames:A.frames=some outer
 mod:Mod K mg base
 bs:∀b o,base.get? b=some o->s.heap.get? b=some o/\H b=none
 i_:base.objs.size<=s.heap.objs.size
 iZ:s.heap.FunFrames base outer
 lO:∀b∈aY outer,H b=none
 aE:cM P w H s.heap
 bare:AllBare s.gens
 hq:Hq K A H
def CE(outer:List Env)(P:Program)(w:World)(H:Hp)(s:Shared)(Q:VK)(u:Value)(s':Shared):Prop:=
 ∃v H',s'.os=s.os/\AllBare s'.gens/\Un (aY outer) [] H H' s.heap s'.heap/\cM P w H' s'.heap/\RelV v u/\Q v H'
def CR(CX:qf)(outer:List Env)(P:Program)(w:World)(H:Hp)(s:Shared)(Q:VK)(E:XK)(r:Result)(s':Shared):Prop:=
 match r with
 |.ok (.ret u)=>CE outer P w H s Q u s'
 |.ok _=>False
 |.error e=>CX outer H s E e s'
structure bX(P:Program)(w:World)(K:PySem.W.Frag)(mg:Str->Option Value)(base:Heap)(CX:qf)(k:Nat)(f:Addr)(fd:FuncData)(ps:List Str)(sp:Sp)(cm:Bool:=true):Prop where
 len:∀vs H Q E,sp vs H Q E->vs.length=ps.length
 run:∀(A) (outer) (s) (H) (args) (us) (vs) (Q) (E),bu k A cm->tN P w K mg base A outer s H->BindsTo s fd args (ps.zip us)->aU vs us->sp vs H Q E->
  codeAny (model P w) A (.call (.ref f) args) (CR CX outer P w H s Q E) s
theorem bX.imp{K:PySem.W.Frag}(F:bX P w K mg base CX k f fd ps sp cm)
  (h:∀vs H Q E,VG vs H Q E->sp vs H Q E):bX P w K mg base CX k f fd ps VG cm:=
 ⟨λvs H Q E q=>F.len vs H Q E (h _ _ _ _ q),λA outer s H args us vs Q E hr he hb hv hs=>F.run A outer s H args us vs Q E hr he hb hv (h _ _ _ _ hs)⟩
theorem tN.make{K:PySem.W.Frag}(e:tN P w K mg base A outer s H)(C:Addr)(us:List Value)(kw:List (Str×Value)):
  tN P w K mg base (A.under (.builtin "type.__call__" ⟨.ref C::us,kw⟩)) outer s H:=⟨by first|exact e.frames|(simpa[Around.under,Code.envs,Code.isFrame,pushEnvs] using e.frames),e.mod,e.bs,e.i_,e.iZ,e.lO,e.aE,e.bare,⟨e.hq.hd,e.hq.ok,e.hq.lm⟩⟩
theorem Inv.Gp(I:Inv X af σ H s):tN X.prog X.w X.K X.mg X.base X.A X.stack s H:=
 ⟨I.ok.frames,I.ok.mod,I.bs,adE I.ok.i_ I.sz,I.stack,I.vR,I.aE,I.bare,I.hq⟩
theorem Inv.after(I:Inv X af σ H s)(h:CE X.stack X.prog X.w H s Q u s'):EP X af σ Q u s':=by
 obtain⟨v,H',os,bare,un,aE,r,q⟩:=h;obtain⟨hh,g,d,t,Y_⟩:=s';obtain rfl:Y_=s.os:=os;exact⟨v,H',I.call (g':=g) (d':=d) (ch:=[]) un aE bare (λb z=>absurd z (by simp)),r,q⟩
def agn(sp:Sp)(eK:List V)(E:XK)(t:TA):TE:=λσ H Q=>t σ H λvs H1=>sp (vs++eK) H1 Q E
def CO(C:Addr)(m:Str)(sp:Sp)(eK:List V)(E:XK)(ta:TE)(t:TA):TE:=λσ H Q=>ta σ H λx H1=>∃a dx fs,x=.ref a/\H1 a=some (.ins C dx fs)/\fs.lookup m=none/\
 t σ H1 λvs H2=>sp (x::(vs++eK)) H2 Q E
def Fe(C:Addr)(sp:Sp)(eK:List V)(E:XK)(t:TA):TE:=λσ H Q=>t σ H λvs H1=>∀x dx,H1 x=none->H1 dx=none->dx≠x->
 sp (.ref x::(vs++eK)) (upd (upd H1 dx (.own x)) x (.ins C dx [])) (λv H2=>v=.aA/\Q (.ref x) H2) E
def Binds(K:PySem.W.Frag)(fd:FuncData)(ps:List Str)(ds:List Value):Prop:=
 ∀(s) (us),K.In s.heap->(us++ds).length=ps.length->BindsTo s fd ⟨us,[]⟩ (ps.zip (us++ds))
theorem Binds.all{K:PySem.W.Frag}(h:∀us:List Value,us.length=ps.length->bindArgs fd ⟨us,[]⟩=pure (ps.zip us)):Binds K fd ps []:=λs us _ hl=>by
 rw[acE] at hl ⊢;exact .of_eq (h us hl)
def Passes(CX:qf)(X:Cx)(E:XK):Prop:=∀(af) (σ) (H) (s) (e) (s'),Inv X af σ H s->CX X.stack H s E e s'->X.xe e s'
theorem Hw(F:bX X.prog X.w X.K X.mg X.base CX k f fd ps sp cm)(hr:bu k X.A cm)(hb:Binds X.K fd ps ds)(hd:aU eK ds)(hx:Passes CX X E)
  (I:Inv X af σ H s) (r:aU vs us) (h:sp (vs++eK) H Q E):Y1 X X.A (call (.ref f) us) (EP X af σ Q) X.xe s:=by
 have r2:=r.append hd;have hl:(us++ds).length=ps.length:=by rw[<- r2.length];exact F.len _ _ _ _ h
 exists 55;cases r with
 |error e=>exact hx af σ H s e s' I hq
 |ok fl=>
  cases fl with
  |ret u=>exact I.after hq
  |next=>exact False.elim hq
  |brk=>exact False.elim hq
  |cont=>exact False.elim hq
theorem Lm(F:bX X.prog X.w X.K X.mg X.base CX k f fd ps sp cm)(hr:bu k X.A cm)(hg:Gl X x)(hm:X.mg x=some (.ref f))(hk:PySem.W.keepIn X.K (.ref f)=true)(hb:Binds X.K fd ps ds)(hd:aU eK ds)(hx:Passes CX X E)
  (ha:PA X (e::es) t) (f7:(x==("__debug__":Str))=false:=by decide) (he:starEach (e::es) X.env=(false,eval e X.env)::starEach es X.env:=by rfl) (hpl:(backTo pos (starEach es X.env)).any (·.1)=false:=by rfl) :
  PE X (.Call (.Name x p) (e::es) [] pos) (agn sp eK E t):=by
 exists 47;refine afv (tK I hg hm ?_ f7);refine PySem.W.callWith_K (h₀:=X.base) I.ok.mod.s_ hk (aM (ha pos af s σ H _ I h) λus s1 ⟨vs,H1,I1,r,q⟩=>⟨I1.c8,?_⟩) he hpl;exact Hw F hr hb hd hx I1 r q
theorem BE(he:PE X o ta)(c:kC X.K C)(hm:kG X.K C m f)(F:bX X.prog X.w X.K X.mg X.base CX k f fd ps sp cm)(hr:bu k X.A cm)(hb:Binds X.K fd ps ds)(hd:aU eK ds)(hx:Passes CX X E)(ha:PA X (e::es) t)
  (cX:starEach (e::es) X.env=(false,eval e X.env)::starEach es X.env:=by rfl) (hpl:(backTo pos (starEach es X.env)).any (·.1)=false:=by rfl)
  (ht:eval (.Call (.Attribute o m apos) (e::es) [] pos) X.env=(do
   let ov <- eval o X.env
   standAt apos.atName
   let(f,first) <- holding [ov] (getMethod ov m pl)
   callWith pos f first (backTo pos (starEach (e::es) X.env)) (backToKw pos (keywordEach [] X.env))):=by rfl) :
  PE X (.Call (.Attribute o m apos) (e::es) [] pos) (CO C m sp eK E ta t):=by
 exists 47;exists 62;subst ex;exists 66;refine J6 I1 ea c hm l ?_;refine PySem.W.callWith_K (first:=[.ref a]) (h₀:=X.base) I.ok.mod.s_ hm.kp (aM (ha pos af s1 σ H1 _ I1 q) λus s2 ⟨vs,H2,I2,r,q2⟩=>⟨I2.c8,?_⟩) cX hpl;exact Hw (us:=.ref a::us) (vs:=.ref a::vs) F hr hb hd hx I2 (.cons rfl r) q2
theorem Pw(he:PE X o ta)(c:kC X.K C)(hm:kG X.K C m f)(F:bX X.prog X.w X.K X.mg X.base CX k f fd ps sp cm)(hr:bu k X.A cm)(hb:Binds X.K fd ps ds)(hd:aU eK ds)(hx:Passes CX X E)
  (ht:eval (.Call (.Attribute o m apos) [] [] pos) X.env=(do
   let ov <- eval o X.env
   standAt apos.atName
   let(f,first) <- holding [ov] (getMethod ov m pl)
   callWith pos f first (backTo pos (starEach [] X.env)) (backToKw pos (keywordEach [] X.env))):=by rfl) :
  PE X (.Call (.Attribute o m apos) [] [] pos) (CO C m sp eK E ta CQ):=by
 exists 47;exists 62;subst ex;exists 66;refine J6 I1 ea c hm l ?_;exact PySem.W.callWith_K0 (first:=[.ref a]) I1.c8 hm.kp (Hw (us:=[.ref a]) (vs:=[.ref a]) F hr hb hd hx I1 (.cons rfl .nil) q)
structure Mk(K:PySem.W.Frag)(C f:Addr):Prop where
 makes:PySem.W.makesIn K C=true
 init:PySem.W.findIn K (.ref C) "__init__"=some (some (.ref f))
 fn:PySem.W.isFn K (.ref f)=true
 kp:PySem.W.keepIn K (.ref C)=true
theorem OE(M:Mk X.K C f)(F:bX X.prog X.w X.K X.mg X.base CX k f fd ps sp cm)(hr:bu (k+1) X.A cm)(hb:Binds X.K fd ps ds)(hd:aU eK ds)
  (hx:Passes CX X E) (I:Inv X af σ H s) (r:aU vs us)
  (h:∀x dx,H x=none->H dx=none->dx≠x->sp (.ref x::(vs++eK)) (upd (upd H dx (.own x)) x (.ins C dx [])) (λv H2=>v=.aA/\Q (.ref x) H2) E) :
  Y1 X X.A (call (.ref C) us) (EP X af σ Q) X.xe s:=by
 have hq:=h (s.heap.objs.size+1) s.heap.objs.size (I.aE.fresh (ahi _)) (I.aE.fresh (abT _)) (acI (agP _));have I2:=Inv.made (C:=C) I;have r2:aU (V.ref (s.heap.objs.size+1)::(vs++eK)) (Value.ref (s.heap.objs.size+1)::(us++ds)):=.cons rfl (r.append hd);have hl:(Value.ref (s.heap.objs.size+1)::us++ds).length=ps.length:=by
  have e:=r2.length;rw[F.len _ _ _ _ hq] at e;exact e.symm
 refine wpAny_call (YJ I.c8 M.makes M.init (afJ.mp M.fn) (codeAny_mono (F.run _ X.stack _ _ ⟨Value.ref (s.heap.objs.size + 1)::us,[]⟩ (Value.ref (s.heap.objs.size + 1)::(us++ds)) _ _ E (hr.make C us [])
  (I2.Gp.make C us []) (hb _ (Value.ref (s.heap.objs.size+1)::us) I2.c8 hl) r2 hq) λr s' n9=>?_))
 cases r with
 |error e=>exact hx af σ _ _ e s' I2 n9
 |ok fl=>
  cases fl with
  |ret u=>
   obtain⟨v,H',I3,rv,ev,q3⟩:=I2.after n9;subst ev;exact⟨rv,⟨V.ref (s.heap.objs.size+1),H',I3,rfl,q3⟩⟩
  |next=>exact False.elim n9
  |brk=>exact False.elim n9
  |cont=>exact False.elim n9
theorem afA(M:Mk X.K C f)(F:bX X.prog X.w X.K X.mg X.base CX k f fd ps sp cm)(hr:bu (k+1) X.A cm)(hg:Gl X x)(hm:X.mg x=some (.ref C))(hb:Binds X.K fd ps ds)(hd:aU eK ds)(hx:Passes CX X E)
  (ha:PA X (e::es) t) (f7:(x==("__debug__":Str))=false:=by decide) (he:starEach (e::es) X.env=(false,eval e X.env)::starEach es X.env:=by rfl) (hpl:(backTo pos (starEach es X.env)).any (·.1)=false:=by rfl) :
  PE X (.Call (.Name x p) (e::es) [] pos) (Fe C sp eK E t):=by
 exists 47;refine afv (tK I hg hm ?_ f7);refine PySem.W.callWith_K (h₀:=X.base) I.ok.mod.s_ M.kp (aM (ha pos af s σ H _ I h) λus s1 ⟨vs,H1,I1,r,q⟩=>⟨I1.c8,?_⟩) he hpl;exact OE M F hr hb hd hx I1 r q
theorem acR(M:Mk X.K C f)(F:bX X.prog X.w X.K X.mg X.base CX k f fd ps sp cm)(hr:bu (k+1) X.A cm)(hg:Gl X x)(hm:X.mg x=some (.ref C))(hb:Binds X.K fd ps ds)(hd:aU eK ds)(hx:Passes CX X E)
  (f7:(x==("__debug__":Str))=false:=by decide):PE X (.Call (.Name x p) [] [] pos) (Fe C sp eK E CQ):=by
 exists 47;refine afv (tK I hg hm ?_ f7);exact PySem.W.callWith_K0 I.c8 M.kp (OE (us:=[]) M F hr hb hd hx I .nil h)
structure o7(N P:List Str)(sc:Scope):Prop where
 kind:sc.kind=.function
 co:sc.isCoroutine=false
 gen:sc.isGenerator=false
 nd:N.Nodup
 pre:N.take P.length=P
 par:∀x∈P,sc.names.lookup x=some .local\/sc.names.lookup x=some .cell
 adS:∀y∈sc.names,y.2≠.free
theorem O3{kindOf:Str->Option NameKind}:∀{binds} {m},(∀v,(x,v)∉binds)->bindL kindOf binds m x=m x
 |[],_,_=>rfl
 |(n,v)::r,m,h=>by
  unfold bindL;rw[O3 λw hw=>h w (aaa _ hw)]
  split
  .have:x≠n:=by rintro rfl;exact h v aar
   simp[this]
  .rfl
theorem Ly{kindOf:Str->Option NameKind}:∀{binds} {m},(∀v,(x,v)∉binds)->bindC kindOf binds m x=m x
 |[],_,_=>rfl
 |(n,v)::r,m,h=>by
  unfold bindC;rw[Ly λw hw=>h w (aaa _ hw)]
  split
  .rfl
  .have:x≠n:=by rintro rfl;exact h v aar
   simp[this]
theorem Qq{kindOf:Str->Option NameKind}:∀{P:List Str} {vs}{i:Nat} {m},P.Nodup->P[i]? = some x->vs[i]? = some v->kindOf x=some .local->
  bindL kindOf (P.zip vs) m x=some v
 |[],_,_,_,_,h,_,_=>by simp at h
 |_::_,[],_,_,_,_,h,_=>by simp at h
 |p::P,w::vs,0,m,nd,h1,h2,hk=>by
  simp at h1 h2;subst h1;subst h2;show bindL kindOf ((p,w)::P.zip vs) m p=_;unfold bindL;rw[O3 λv hv=>(abV.mp nd).1 (List.of_mem_zip hv).1,if_pos hk];simp
 |p::P,w::vs,i+1,m,nd,h1,h2,hk=>by
  unfold bindL;exact Qq (abV.mp nd).2 (by simpa using h1) (by simpa using h2) hk
theorem R9{kindOf:Str->Option NameKind}:∀{P:List Str} {vs}{i:Nat} {m},P.Nodup->P[i]? = some x->vs[i]? = some v->kindOf x≠some .local->
  bindC kindOf (P.zip vs) m x=some v
 |[],_,_,_,_,h,_,_=>by simp at h
 |_::_,[],_,_,_,_,h,_=>by simp at h
 |p::P,w::vs,0,m,nd,h1,h2,hk=>by
  simp at h1 h2;subst h1;subst h2;show bindC kindOf ((p,w)::P.zip vs) m p=_;unfold bindC;rw[Ly λv hv=>(abV.mp nd).1 (List.of_mem_zip hv).1,if_neg hk];simp
 |p::P,w::vs,i+1,m,nd,h1,h2,hk=>by
  unfold bindC;exact R9 (abV.mp nd).2 (by simpa using h1) (by simpa using h2) hk
noncomputable def start(N:List Str)(vs:List V):St:=vs.map some++List.replicate (N.length-vs.length) none
noncomputable def fU(CX:qf)(P:Program)(w:World)(K:PySem.W.Frag)(mg:Str->Option Value)(base:Heap)(N:List Str)(qual:Str)(scope:Scope)(f:Addr)(cd:Value)(A:Around)(outer:List Env)(s:Shared)(H:Hp)(E:XK)(cm:Bool:=true):Cx where
 prog:=P
 w:=w
 K:=K
 mg:=mg
 base:=base
 A:=A.deeper (envOfC qual scope s.heap.objs.size f cd)
 N:=N
 cG:=s
 uh:=H
 env:=envOfC qual scope s.heap.objs.size f cd
 outer:=outer
 stack:=envOfC qual scope s.heap.objs.size f cd::outer
 ex:=[]
 calm:=cm
 fn:=λ_=>true
 pn:=[]
 xe:=λe s'=>wpAny (model P w) (A.deeper (envOfC qual scope s.heap.objs.size f cd)) (leaving (envOfC qual scope s.heap.objs.size f cd) e) (λ_ gY=>CX outer H s E e gY) (λe' gY=>CX outer H s E e' gY) s'
theorem Q2{sc:Scope}(h:sc.names.lookup x=some .cell):∃c,(cellsFrom n sc.names []).lookup x=some c:=by
 have q:=PySem.W.cellsFrom_some sc.names n [] (.inl h);exact agt.mp q
theorem aai{w:World}{K:PySem.W.Frag}{mg:Str->Option Value}
  (S:o7 N ps scope) (hd:cm=true->A.handled=none) (e0:tN P w K mg base A outer s H) (hl:vs.length=ps.length) (r:aU vs us)
  (x:InCallC s s.heap.objs.size (bindL (envOfC qual scope s.heap.objs.size f cd).kindOf (ps.zip us) λ_=>none) (cellsFrom (s.heap.objs.size+1) scope.names []) (bindC (envOfC qual scope s.heap.objs.size f cd).kindOf (ps.zip us) λ_=>none) s1) :
  Inv (fU CX P w K mg base N qual scope f cd A outer s H E cm) [] (start N vs) H s1:=by
 have hpl:ps.length<=N.length:=by have:=congrArg List.length S.pre;rw[agQ] at this;omega
 obtain⟨h1,tk,rfl,hk⟩:=x.done;have sC:∀b:Addr,b∉(fU CX P w K mg base N qual scope f cd A outer s H E cm).ex:=λb z=>absurd (show b∈([]:List Addr) from z) (by simp)
 refine⟨⟨e0.mod,S.kind,rfl,rfl,abT _,λy z c h1 h2=>?_,λy hy=>?_,λy c _ h=>?_,hd,Around.frames_deeper e0.frames,.inr ⟨rfl,rfl⟩,λb z=>absurd z (sC b),e0.bs,e0.i_,λb _ _=>sC b,λb z=>absurd z (sC b),e0.iZ,e0.lO⟩,
  rfl,e0.bare,Un.kept hk,⟨_,x.toInCall.ns,λi y v h1 h2 h3=>?_⟩,λy c h=>⟨_,x.cell y c h⟩,e0.aE.fresh (abT _),λy c h=>?_,λp hp=>absurd (show p∈([]:List (Addr×Obj)) from hp) (by simp),e0.aE.kept hk,?_,⟨e0.hq.hd,e0.hq.ok,e0.hq.lm⟩⟩
 .exact name_of_addr x.apart (PySem.mem_of_lookup h1) (PySem.mem_of_lookup h2)
 .have hy:=hy;rcases hy with hy|hy
  .exact Q2 hy
  .exact absurd rfl (S.adS _ (PySem.mem_of_lookup hy))
 .exact afk (x.above y c (PySem.mem_of_lookup h))
 .have hi:i<vs.length:=by
   unfold start at h2
   by_cases hi:i<vs.length
   .exact hi
   .rw[aeB (by simpa using hi)] at h2;rw[agK] at h2
    split at h2<;>cases h2
  have ha:vs[i]? = some v:=by
   unfold start at h2;rw[aea (by simpa using hi),aco] at h2;exists e,vs[i]?,a,h2;cases h2;rfl
  obtain⟨u,hu,rv⟩:=r.get ha;have hp:ps[i]? = some y:=by
   rw[<- S.pre,List.getElem?_take_of_lt (by omega)];exact h1
  have Ox:ps.Nodup:=by rw[<- S.pre];exact S.nd.sublist (List.take_sublist _ _)
  refine⟨u,rv,?_⟩;rcases S.par y (aeL hp) with k|k
  .exact .inl ⟨k,Qq Ox hp hu k⟩
  .obtain⟨c,e⟩:=Q2 k;refine .inr ⟨.inl k,c,e,?_⟩;have q:=x.cell y c e;rw[R9 Ox hp hu (by show scope.names.lookup y≠_;rw[k];decide)] at q;exact q
 .exact e0.aE.fresh (afk (x.above y c (PySem.mem_of_lookup h)))
 .unfold start;show _=N.length;rw[abN,List.length_map,List.length_replicate];omega
theorem NJ{K:PySem.W.Frag}{dV kV doc pm aR ct oc:Value}
  (lk:K.lookup f=some ⟨oc,od,.func (PySem.W.fnOf name qual params body scope dV kV doc pm an aR ct),qH⟩) (g7:PySem.W.codeIn K aR qual=true) (S:o7 N ps scope)
  (len:∀vs H Q E,sp vs H Q E->vs.length=ps.length)
  (yg:∀(A) (outer) (s) (H) (vs) (Q) (E),bu k (A.deeper (envOfC qual scope s.heap.objs.size f aR)) cm->sp vs H Q E->
   ∃t,iH (fU CX P w K mg base N qual scope f aR A outer s H E cm) body t/\t { nx:=λ_ H'=>Q .aA H',rt:=Q } (start N vs) H) :
  bX P w K mg base CX (k+1) f (PySem.W.fnOf name qual params body scope dV kV doc pm an aR ct) ps sp cm:=by
 refine⟨len,λA outer s H args us vs Q E hr e0 hb r qF=>?_⟩;have hl:=len _ _ _ _ qF;have KX:=e0.mod.s_.keeps λb o e=>(e0.bs b o e).1
 have lim:=e0.mod.nolimit.keeps λb o e=>(e0.bs b o e).1
 have Zj:∀y∈ps.zip us,scope.names.lookup y.1=some .local\/(scope.names.lookup y.1=some .cell/\((cellsFrom (s.heap.objs.size+1) scope.names []).lookup y.1).isSome=true):=λ⟨n,v⟩ hy=>by
  rcases S.par n (List.of_mem_zip hy).1 with q|q
  .exact .inl q
  .exact .inr ⟨q,PySem.W.cellsFrom_some _ _ _ (.inl q)⟩
 refine codeAny_call_function hr.depth (KX _ _ lk) rfl S.co S.gen rfl (PySem.W.codeRec_of KX g7) (hb _ _ _ _ ?_);refine wpAny_newFunctionEnv_cells S.kind Zj λenv he s1 x=>?_
 subst he;refine⟨lim.keeps x.toInCall.keep,codeAny_func ?_⟩;obtain⟨t,ht,hq⟩:=yg A outer s H vs Q E (hr.deeper _) qF;have I:Inv (fU CX P w K mg base N qual scope f aR A outer s H E cm) [] (start N vs) H s1:=aai S hr.hd e0 hl r x;refine adU (ht [] s1 (start N vs) H _ I hq) (λfl s' hs=>?_) λe s' hs=>hs
 have fin:∀{az} {H'} {v} {u},Inv (fU CX P w K mg base N qual scope f aR A outer s H E cm) [] az H' s'->RelV v u->Q v H'->CE outer P w H s Q u s':=
  λ{az H' v u} J rv q=>⟨v,H',J.os,J.bare,J.base,J.aE,rv,q⟩
 cases fl with
 |ret u=>
  obtain⟨v,az,H',J,rv,q⟩:=hs;exact fin J rv q
 |next=>
  obtain⟨az,H',J,q⟩:=hs;exact fin (v:=V.aA) (u:=Value.none) J rfl q
 |brk=>
  obtain⟨_,_,_,q⟩:=hs;exact False.elim q
 |cont=>
  obtain⟨_,_,_,q⟩:=hs;exact False.elim q
section
variable{id T:String}
def El(r:List V->Hp->VK->Prop)(t:TA):TE:=λσ H Q=>t σ H λvs H1=>r vs H1 Q
theorem lR(hc:fX X (.builtin id) r)(hg:Gl X x)(hm:X.mg x=none)(hv:bootBuiltins x=some (.builtin id))(ha:PA X (e::es) t)(hn:x≠"__name__":=by decide)(f7:(x==("__debug__":Str))=false:=by decide)
  (he:starEach (e::es) X.env=(false,eval e X.env)::starEach es X.env:=by rfl) (hpl:(backTo pos (starEach es X.env)).any (·.1)=false:=by rfl):PE X (.Call (.Name x p) (e::es) [] pos) (El r t):=by
 exists 47;refine afv (qj I hg hm hv ?_ hn f7);exact PyProof.Rows.callWith_builtin1 (aM (ha pos af s σ H _ I h) λus s1 ⟨vs,H1,I1,r1,q1⟩=>hc af s1 σ H1 vs us Q I1 r1 q1) he hpl
theorem IV(hc:fX X (.type T) r)(hg:Gl X x)(hm:X.mg x=none)(hv:bootBuiltins x=some (.type T))(ha:PA X (e::es) t)(hn:x≠"__name__":=by decide)(f7:(x==("__debug__":Str))=false:=by decide)
  (he:starEach (e::es) X.env=(false,eval e X.env)::starEach es X.env:=by rfl) (hpl:(backTo pos (starEach es X.env)).any (·.1)=false:=by rfl):PE X (.Call (.Name x p) (e::es) [] pos) (El r t):=by
 exists 47;refine afv (qj I hg hm hv ?_ hn f7);exact agy (aM (ha pos af s σ H _ I h) λus s1 ⟨vs,H1,I1,r1,q1⟩=>hc af s1 σ H1 vs us Q I1 r1 q1) he hpl
end
end L2
namespace HT
open PySem PyProof.Rows
noncomputable def gJ(n d:Nat):Option Int->Nat
 |none=>d
 |some v=>if v<0 then(v+(n:Int)).toNat else min v.toNat n
theorem C4(n d:Nat):gJ n d none=d:=rfl
theorem Du(n d k:Nat):gJ n d (some (k:Int))=min k n:=by
 show(if(k:Int)<0 then((k:Int)+(n:Int)).toNat else min (k:Int).toNat n)=min k n;rw[if_neg (by omega),Int.toNat_natCast]
end HT
namespace L2
open PySem PySem.Spec PyProof.Rows
abbrev TO:=St->Hp->(Option Int->Hp->Prop)->Prop
def PO(X:Cx)(e:Option Expr)(t:TO):Prop:=
 ∀(af) (s) (σ) (H) (Q),Inv X af σ H s->t σ H Q->
  Y1 X X.A (evalPart e X.env) (λu s'=>∃o H',Inv X af σ H' s'/\IsPart u o/\Q o H') X.xe s
noncomputable def aeu:TO:=λ_ H Q=>Q none H
noncomputable def aaF(t:TE):TO:=λσ H Q=>t σ H λx H1=>∃i,x=.int i/\Q (some i) H1
theorem intsAre_of:∀{us},aU (ns.map V.int) us->IntsAre us ns:=by
 induction ns with
 |nil=>intro us r;rw[ag9] at r;cases r;exact .nil
 |cons n ns ih=>
  intro us r;rw[aas] at r;cases r with
  |cons r1 r2=>
   obtain⟨t,e⟩:=r1;subst e;exact .cons n t (ih r2)
section
variable{lo hi:Option Expr}
theorem Iz:PO X none aeu:=by
 exists 47;rw[evalPart_none];exact acD ⟨none,H,I,.none,h⟩
theorem JI(h:PE X e te):PO X (some e) (aaF te):=by
 intro af s σ H Q I hw;rw[evalPart_some];refine aM (h af s σ H _ I hw) λu s1 ⟨x,H1,I1,r1,q1⟩=>?_
 obtain⟨i,rfl,q⟩:=q1;obtain⟨t,rfl⟩:=r1;exact⟨some i,H1,I1,.int i t,q⟩
def Qe(X:Cx)(r:V->Option Int->Option Int->Hp->VK->Prop):Prop:=
 ∀(af) (s) (σ) (H) (x) (v vl vu) (lo hi) (sl) (Q),Inv X af σ H s->RelV x v->s.heap.IsSliceOf sl vl vu .none->IsPart vl lo->IsPart vu hi->r x lo hi H Q->
  ∃T id,typeLookup (.type T) "__getitem__"=pure (some (.builtin id))/\s.TypeIs v T/\Y1 X X.A (getItem v (.ref sl)) (EP X af σ Q) X.xe s
def We(r:V->Option Int->Option Int->Hp->VK->Prop)(te:TE)(tl th:TO):TE:=λσ H Q=>te σ H λx H1=>tl σ H1 λl H2=>th σ H2 λu H3=>r x l u H3 Q
theorem Eu(hr:Qe X r)(he:PE X e te)(hl:PO X lo tl)(hu:PO X hi th):PE X (.Subscript e (.Slice lo hi none p2) pos) (We r te tl th):=by
 exists 47;refine Subscript_ (aM (he af s σ H _ I h) λv s1 ⟨x,H1,I1,r1,q1⟩=>?_);refine wpAny_Slice (aM (hl af s1 σ H1 _ I1 q1) λvl s2 ⟨l,H2,I2,pl,q2⟩=>aM (hu af s2 σ H2 _ I2 q2) λvu s3 ⟨u,H3,I3,pu,q3⟩=>?_);rw[evalPart_none];refine acD ?_;have I4:Inv X af σ H3 { s3 with heap:=s3.heap.push { cls:=.type "slice",data:=.fields #[vl,vu,.none] } }:=I3.kept λb ob q=>aaT _ q
 obtain⟨T,id,hT,ht,hg⟩:=hr af { s3 with heap:=s3.heap.push { cls:=.type "slice",data:=.fields #[vl,vu,.none] } } σ H3 x v vl vu l u s3.heap.objs.size Q I4 r1 (Heap.IsSliceOf.new ..) pl pu q3;exact tail_any (ops:=[.ref s3.heap.objs.size,v]) ht hT hg (by with_unfolding_all rfl)
def kX(xs:List V)(lo hi:Option Int):List V:=(xs.drop (HT.gJ xs.length 0 lo)).take (HT.gJ xs.length xs.length hi-HT.gJ xs.length 0 lo)
theorem Xa(xs:List V)(lo hi:Option Int):(kX xs lo hi).length<=xs.length:=by
 unfold kX;rw[agQ,List.length_drop];omega
end
noncomputable def lI(n:Nat)(i:Int):Option Nat:=if 0<=i then(if i<n then some i.toNat else none) else if -(n:Int)<=i then some (i+n).toNat else none
def dU{α:Type}(xs:List α)(i:Int):Option α:=(lI xs.length i).bind λj=>xs[j]?
theorem YE(h:lI n i=some j):seqIndex? i n=some j/\j<n/\-(n:Int)<=i/\i<n:=by
 unfold lI at h
 by_cases h0:0<=i
 .rw[if_pos h0] at h;obtain⟨h1,h⟩:=ci h;have e:=ab1 h;exact⟨by rw[seqIndex_of h0 h1,e],by omega,by omega,h1⟩
 .rw[if_neg h0] at h;obtain⟨h1,h⟩:=ci h;have e:=ab1 h;exact⟨by rw[seqIndex_neg (by omega) h1,e],by omega,h1,by omega⟩
theorem Eb(h:dU xs i=some v):∃j,seqIndex? i xs.length=some j/\xs[j]? = some v/\j<xs.length/\-(xs.length:Int)<=i/\i<xs.length:=by
 unfold dU at h;exists e,lI xs.length i,j,h;obtain⟨h1,h2,h3,h4⟩:=YE e;exact⟨j,h1,h,h2,h3,h4⟩
def Ds(b:Expr):Prop:=∀o i,subscripted b false o i=operate [o,i] (getItem o i)
def pC(X:Cx)(r:R2):Prop:=
 ∀(value slice) (af) (s) (σ) (H) (x y) (v u) (Q),Inv X af σ H s->RelV x v->RelV y u->r x y H Q->
  subscripted slice false v u=operate [v,u] (getItem v u)->Y1 X X.A (subscriptTail value slice v u) (EP X af σ Q) X.xe s
def DM(X:Cx)(id:String)(r:V->List V->Hp->VK->Prop):Prop:=
 ∀(af) (s) (σ) (H) (x) (xs) (v) (us) (Q),Inv X af σ H s->RelV x v->aU xs us->r x xs H Q->
  Y1 X X.A (call (.builtin id) (v::us)) (EP X af σ Q) X.xe s
section
theorem pC.or(h:pC X r)(h':pC X r'):pC X (λx y H Q=>r x y H Q\/r' x y H Q):=by
 intro value slice af s σ H x y v u Q I rx ry q hs;rcases q with q|q
 .exact h value slice af s σ H x y v u Q I rx ry q hs
 .exact h' value slice af s σ H x y v u Q I rx ry q hs
theorem PN(hr:pC X r)(ha:PE X a ta)(hb:PE X b tb)(hs:Ds b):PE X (.Subscript a b pos) (uE r ta tb):=by
 exists 47;exact Subscript_ (ID ha hb I h λv u s2 x y H2 I2 rx ry q=>hr a b af s2 σ H2 x y v u Q I2 rx ry q (hs _ _))
def DA(K:PySem.W.Frag):R2:=λx y H Q=>∃p xs i v,x=.ref p/\y=.int i/\bZ K H p xs/\dU xs i=some v/\Q v H
def Fq(K:PySem.W.Frag):R2:=λx y H Q=>∃p xs i v,x=.ref p/\y=.int i/\ck K H p xs/\dU xs i=some v/\Q v H
def EB:R2:=λx y H Q=>∃z i c,x=.str z/\y=.int i/\z.length<=sizeLine/\dU z.cps.toList i=some c/\Q (.str ⟨#[c]⟩) H
theorem aak:pC X (DA X.K):=by
 exists 40;obtain⟨p,xs,i,z,rfl,rfl,hq,he,q⟩:=h;cases rx;obtain⟨t,rfl⟩:=ry;obtain⟨au,r,pl,hz⟩:=I.list hq;obtain⟨j,h1,h2,h3,h4,h5⟩:=Eb he;obtain⟨w,ew,eW⟩:=r.get h2;have hl:=r.length;have hn:=xh;have fin:EP X af σ Q w s:=⟨z,H,I,eW,q⟩
 by_cases h0:0<=i
 .have hj:i.toNat=j:=by
   rw[seqIndex_of h0 h5] at h1;exact ab1 h1
  exact item_listR pl.isList h0 (by omega) (by rw[hj];simpa using ew) fin hs
 .have hj:(i+(au.toArray.size:Int)).toNat=j:=by
   rw[seqIndex_neg (by omega) h4] at h1;rw[ab2,<- hl];exact ab1 h1
  exact subscriptTail_builtinR pl.isList.typeIs slot_list_getitem.lookup
   (wpAny_getItem_list_neg pl.isList (by omega) (by rw[ab2]<;>omega) (by omega) (by rw[hj];simpa using ew) ⟨rfl,fin⟩) hs
theorem WJ:pC X (Fq X.K):=by
 exists 40;obtain⟨p,xs,i,z,rfl,rfl,hq,he,q⟩:=h;cases rx;obtain⟨t,rfl⟩:=ry;obtain⟨au,r,pl,hz⟩:=I.tuple hq;obtain⟨j,h1,h2,h3,h4,h5⟩:=Eb he;obtain⟨w,ew,eW⟩:=r.get h2;have hl:=r.length;have hn:=xh;have fin:EP X af σ Q w s:=⟨z,H,I,eW,q⟩
 exact subscriptTail_builtinR pl.typeIs slot_tuple_getitem.lookup
  (getItem_tuple pl (by omega) (by omega) (by rw[ab2,<- hl];exact h1) (by simpa using ew) ⟨rfl,fin⟩) hs
theorem acv:pC X EB:=by
 exists 40;obtain⟨z,i,c,rfl,rfl,hz,he,q⟩:=h;exists 79;obtain⟨t',rfl⟩:=ry;obtain⟨j,h1,h2,h3,h4,h5⟩:=Eb he;have hl:z.cps.toList.length=z.length:=by simp[Str.length]
 rw[hl] at h1 h4 h5;have hn:=xh;exact tail_any (typeIs_str s z t) slot_str_getitem.lookup (getItem_str (by
  have e1:decide (i < -(2 ^ 63:Int))=false:=abR (by omega);have e2:decide (i >= 2 ^ 63)=false:=abR (by omega);rw[e1,e2,Bool.or_false]) (by rw[h1];simpa using h2) ⟨.str ⟨#[c]⟩,H,I.tok _,⟨_,rfl⟩,q⟩) hs
def Yw(K:PySem.W.Frag):R2:=λx y H Q=>DA K x y H Q\/Fq K x y H Q\/EB x y H Q
theorem Qs:pC X (Yw X.K):=aak.or (WJ.or acv)
theorem ZI(lo hi:Option Int)(n:Nat):(sliceBounds lo hi none n).1=((HT.gJ n 0 lo:Nat):Int)/\(sliceBounds lo hi none n).2.1=((HT.gJ n n hi:Nat):Int)/\(sliceBounds lo hi none n).2.2=1:=by
 refine⟨?_,?_,rfl⟩
 .cases lo with
  |none=>simp[sliceBounds,HT.gJ]
  |some i=>
   simp only[sliceBounds,HT.gJ,Option.getD_none,show(1:Int) > 0 by decide,if_true]
   by_cases h:i<0
   .simp only[h,if_true]<;>omega
   .simp only[h,if_false]<;>omega
 .cases hi with
  |none=>simp[sliceBounds,HT.gJ]
  |some i=>
   simp only[sliceBounds,HT.gJ,Option.getD_none,show(1:Int) > 0 by decide,if_true]
   by_cases h:i<0
   .simp only[h,if_true]<;>omega
   .simp only[h,if_false]<;>omega
theorem S_(au:List Value)(lo hi:Option Int):slicePick au.toArray lo hi none=((au.drop (HT.gJ au.length 0 lo)).take (HT.gJ au.length au.length hi-HT.gJ au.length 0 lo)).toArray:=by
 obtain⟨h1,h2,h3⟩:=ZI lo hi au.toArray.size;unfold slicePick;rw[h1,h2,h3];simp only[sliceRange_one,pick_run,ab2]<;>rfl
def Qj(K:PySem.W.Frag):V->Option Int->Option Int->Hp->VK->Prop:=λx lo hi H Q=>∃a xs,x=.ref a/\bZ K H a xs/\∀p,H p=none->Q (.ref p) (upd H p (.lst (kX xs lo hi)))
theorem DE:Qe X (Qj X.K):=by
 intro af s σ H x v vl vu lo hi sl Q I rx hs pl pu h;obtain⟨a,xs,rfl,hx,q⟩:=h;cases rx;obtain⟨au,r,ht,hz⟩:=I.list hx;have hlen:=r.length;refine⟨"list",_,slot_list_getitem.lookup,ht.isList.typeIs,?_⟩;refine wpAny_getItem_list_slice ht.isList hs pl pu .none (by simp) ?_ (by rw[ab2]<;>omega);rw[S_,<- hlen];refine⟨.ref s.heap.objs.size,_,I.laid (λb ob q=>aaT _ q) (abT _) ?_,rfl,q _ (I.aE.fresh (abT _))⟩;exact⟨adE (Xa xs lo hi) hz,_,0,(r.drop (HT.gJ xs.length 0 lo)).take (HT.gJ xs.length xs.length hi-HT.gJ xs.length 0 lo),ab3 _ rfl⟩
noncomputable def mC:V->Bool
 |.aA=>true
 |.bl _=>true
 |.int _=>true
 |.str _=>true
 |_=>false
noncomputable def pL:V->V->Bool
 |.aA,.aA=>true
 |.bl a,.bl b=>a==b
 |.bl a,.int b=>(if a then 1 else 0)==b
 |.int a,.bl b=>a==(if b then 1 else 0)
 |.int a,.int b=>a==b
 |.str a,.str b=>a==b
 |_,_=>false
theorem ae0(ry:RelV y u)(rx:RelV x v)(fy:mC y=true)(fx:mC x=true):SeqAt.EqAt A s u v (pL y x):=by
 cases y with
 |aA=>
  cases ry;cases x with
  |aA=>cases rx;exact SeqAt.EqAt.same _
  |bl b=>cases rx;exact SeqAt.EqAt.none_bool b
  |int b=>obtain⟨t,rfl⟩:=rx;exact SeqAt.EqAt.none_int b t
  |str b=>obtain⟨t,rfl⟩:=rx;exact SeqAt.EqAt.none_str b t
  |_=>exact absurd (show false=true from fx) abz
 |bl a=>
  cases ry;cases x with
  |aA=>cases rx;exact SeqAt.EqAt.bool_none a
  |bl b=>cases rx;exact SeqAt.EqAt.bool_bool a b
  |int b=>obtain⟨t,rfl⟩:=rx;exact SeqAt.EqAt.bool_int a b t
  |str b=>obtain⟨t,rfl⟩:=rx;exact SeqAt.EqAt.bool_str a b t
  |_=>exact absurd (show false=true from fx) abz
 |int a=>
  obtain⟨t',rfl⟩:=ry;cases x with
  |aA=>cases rx;exact SeqAt.EqAt.int_none a t'
  |bl b=>cases rx;exact SeqAt.EqAt.int_bool a t' b
  |int b=>obtain⟨t,rfl⟩:=rx;exact SeqAt.EqAt.int_int a t' b t
  |str b=>obtain⟨t,rfl⟩:=rx;exact SeqAt.EqAt.int_str a t' b t
  |_=>exact absurd (show false=true from fx) abz
 |str a=>
  obtain⟨t',rfl⟩:=ry;cases x with
  |aA=>cases rx;exact SeqAt.EqAt.str_none a t'
  |bl b=>cases rx;exact SeqAt.EqAt.str_bool a t' b
  |int b=>obtain⟨t,rfl⟩:=rx;exact SeqAt.EqAt.str_int a t' b t
  |str b=>obtain⟨t,rfl⟩:=rx;exact SeqAt.EqAt.str_str a t' b t
  |_=>exact absurd (show false=true from fx) abz
 |_=>exact absurd (show false=true from fy) abz
def iP(x:V)(u:Value):Bool:=match u with
 |.none=>pL .aA x
 |.bool b=>pL (.bl b) x
 |.int i _=>pL (.int i) x
 |.str z _=>pL (.str z) x
 |_=>false
theorem Le(r:RelV y u)(f:mC y=true):iP x u=pL y x:=by
 cases y with
 |aA=>cases r;rfl
 |bl b=>cases r;rfl
 |int i=>obtain⟨t,rfl⟩:=r;rfl
 |str z=>obtain⟨t,rfl⟩:=r;rfl
 |_=>exact absurd (show false=true from f) abz
theorem xj:∀{xs} {us},aU xs us->xs.all mC=true->us.any (iP x)=xs.any λy=>pL y x
 |_,_,.nil,_=>rfl
 |y::xs,u::us,.cons r t,f=>by
  rw[ahd,abn] at f;rw[afy,afy,Le r f.1,xj t f.2]
theorem vm(rx:RelV x v)(fx:mC x=true):∀{xs} {us},aU xs us->xs.all mC=true->∀u∈us,SeqAt.EqAt A s u v (iP x u)
 |_,_,.nil,_=>λu hu=>by cases hu
 |y::xs,u::us,.cons r t,f=>λu' hu=>by
  rw[ahd,abn] at f;rcases abb.mp hu with rfl|hu
  .rw[Le r f.1];exact ae0 r rx f.1 fx
  .exact vm rx fx t f.2 u' hu
def vG(x:V)(xs:List V):Bool:=xs.any λy=>pL y x
def Ck(K:PySem.W.Frag)(neg:Bool):R2:=λx y H Q=>∃p xs,y=.ref p/\(bZ K H p xs\/ck K H p xs)/\mC x=true/\xs.all mC=true/\Q (.bl (if neg then !vG x xs else vG x xs)) H
theorem OG:c_ X (compareOp .In) (Ck X.K false):=by
 exists 44;obtain⟨p,xs,rfl,hq,fx,fs,q⟩:=h;cases ry;rcases hq with hq|hq
 .obtain⟨au,r,pl,hz⟩:=I.list hq;refine SeqAt.in_listAt (iP x) pl.isList (λw hw=>vm rx fx r fs w (by simpa using hw)) ⟨.bl _,H,I,rfl,?_⟩;exists 64;exact q
 .obtain⟨au,r,pl,hz⟩:=I.tuple hq;refine SeqAt.in_tupleAt (iP x) pl (λw hw=>vm rx fx r fs w (by simpa using hw)) ⟨.bl _,H,I,rfl,?_⟩;exists 64;exact q
theorem Ff:c_ X (compareOp .NotIn) (Ck X.K true):=by
 exists 44;obtain⟨p,xs,rfl,hq,fx,fs,q⟩:=h;cases ry;rcases hq with hq|hq
 .obtain⟨au,r,pl,hz⟩:=I.list hq;refine SeqAt.notIn_listAt (iP x) pl.isList (λw hw=>vm rx fx r fs w (by simpa using hw)) ⟨.bl _,H,I,rfl,?_⟩;exists 64;exact q
 .obtain⟨au,r,pl,hz⟩:=I.tuple hq;refine SeqAt.notIn_tupleAt (iP x) pl (λw hw=>vm rx fx r fs w (by simpa using hw)) ⟨.bl _,H,I,rfl,?_⟩;exists 64;exact q
theorem ace:fX X (.builtin "len") (λxs H Q=>∃p ys,xs=[.ref p]/\(bZ X.K H p ys\/ck X.K H p ys)/\Q (.int ys.length) H):=by
 exists 45;obtain⟨p,ys,rfl,hq,q⟩:=h;obtain⟨u,rfl,rx⟩:=vals1 r;cases rx;have hn:=xh;rcases hq with hq|hq
 .obtain⟨au,r',pl,hz⟩:=I.list hq;have hlen:=r'.length;exact Calls.call_len_list pl.isList (by simp only[ab2]<;>omega) ⟨.int ys.length,H,I.tok _,⟨s.toks+1,by rw[ab2,hlen]⟩,q⟩
 .obtain⟨au,r',pl,hz⟩:=I.tuple hq;have hlen:=r'.length;exact len_tuple pl (by simp only[ab2]<;>omega) ⟨.int ys.length,H,I.tok _,⟨s.toks+1,by rw[ab2,hlen]⟩,q⟩
theorem aaL:fX X (.type "list") (λxs H Q=>∃p ys,xs=[.ref p]/\(bZ X.K H p ys\/ck X.K H p ys)/\∀l,H l=none->Q (.ref l) (upd H l (.lst ys))):=by
 exists 45;obtain⟨p,ys,rfl,hq,q⟩:=h;obtain⟨u,rfl,rx⟩:=vals1 r;cases rx;have fin:∀(au),aU ys au->ys.length<=sizeLine->∀(h') (c'),(∀b o',s.heap.get? b=some o'->h'.get? b=some o')->
   h'.get? s.heap.objs.size=some { cls:=.type "list",dict:=none,data:=.seq au.toArray c',slots:=#[] }->EP X af σ Q (.ref s.heap.objs.size) { s with heap:=h' }:=λau r' hz h' c' kp e=>
  ⟨.ref s.heap.objs.size,_,I.laid kp (abT _) (show di X.prog X.w _ h' _ (.lst ys) from⟨hz,au,c',r',e⟩),rfl,q _ (I.aE.fresh (abT _))⟩
 rcases hq with hq|hq
 .obtain⟨au,r',pl,hz⟩:=I.list hq;have hlen:=r'.length;obtain⟨o,ho,hc,n,hd⟩:=pl.isList;exact call_list_seq p (.inl rfl) ho hc hd (λh' c' kp e=>fin au r' hz h' c' kp e) (by simp only[ab2]<;>omega)
 .obtain⟨au,r',pl,hz⟩:=I.tuple hq;have hlen:=r'.length;obtain⟨o,ho,hc,n,hd⟩:=pl;exact call_list_seq p (.inr rfl) ho hc hd (λh' c' kp e=>fin au r' hz h' c' kp e) (by simp only[ab2]<;>omega)
theorem Y8:fX X (.type "tuple") (λxs H Q=>∃p ys,xs=[.ref p]/\((bZ X.K H p ys/\∀l,H l=none->Q (.ref l) (upd H l (.tup ys)))\/(ck X.K H p ys/\Q (.ref p) H))):=by
 exists 45;obtain⟨p,ys,rfl,h⟩:=h;obtain⟨u,rfl,rx⟩:=vals1 r;cases rx;rcases h with⟨hq,q⟩|⟨hq,q⟩
 .obtain⟨au,r',pl,hz⟩:=I.list hq;have hlen:=r'.length;refine call_tuple_list pl.isList (λh' kp=>?_) (by simp only[ab2]<;>omega);have I1:=I.kept (t':=s.toks) kp;have I2:Inv X af σ (upd H h'.objs.size (.tup ys)) { s with heap:=h'.push { cls:=.type "tuple",data:=.seq au.toArray } }:=
   I1.laid (λb o e=>aaT _ e) (abT _) (show di X.prog X.w _ _ _ (.tup ys) from⟨hz,au,r',n5.new _ _⟩)
  exact⟨.ref h'.objs.size,_,I2,rfl,q _ (I1.aE.fresh (abT _))⟩
 .obtain⟨au,r',pl,hz⟩:=I.tuple hq;exact call_tuple_same pl ⟨.ref p,H,I,rfl,q⟩
def Mh(K:PySem.W.Frag)(T:String)(x:V)(H:Hp):Prop:=match x with
 |.str _=>T="str"
 |.int _=>T="int"
 |.ref p=>(T="list"/\∃xs,bZ K H p xs)\/(T="tuple"/\∃o,K.lookup p=some o/\o.cls=.type "tuple"/\o.dict=none)\/
   (T="dict"/\((∃ak,H p=some (.dK ak))\/∃ak,H p=some (.dT ak)))\/(T="set"/\∃S n,H p=some (.set S n))
 |_=>False
theorem aa9(I:Inv X af σ H s)(r:RelV x v)(ty:Mh X.K T x H):
  s.TypeIs v T/\∀a,v=.ref a->∃ob,s.heap.get? a=some ob/\ob.dict=none:=by
 cases x with
 |str z=>
  obtain⟨t,rfl⟩:=r;cases(show T="str" from ty);exact⟨typeIs_str s z t,λ_ e=>nomatch e⟩
 |int i=>
  obtain⟨t,rfl⟩:=r;cases(show T="int" from ty);exact⟨typeIs_int s i t,λ_ e=>nomatch e⟩
 |ref p=>
  cases r;rcases ty with⟨rfl,xs,hq⟩|⟨rfl,o,hk,hc,hd⟩|⟨rfl,hk⟩|⟨rfl,S,n,hk⟩
  .obtain⟨au,_,pl,_⟩:=I.list hq;refine⟨pl.isList.typeIs,λa e=>?_⟩;cases e;obtain⟨o,n,e,c,hd,_⟩:=pl;exact⟨o,e,hd⟩
  .refine⟨⟨o,I.c8 p o hk,hc⟩,λa e=>?_⟩;cases e;exact⟨o,I.c8 _ o hk,hd⟩
  .have z:∃o,s.heap.get? p=some o/\o.ExactDict:=by
    rcases hk with⟨ak,hk⟩|⟨ak,hk⟩
    .obtain⟨_,_,_,_,o,_,_,e,ex,_⟩:=I.aE p _ hk;exact⟨o,e,ex⟩
    .obtain⟨_,_,_,_,o,_,_,e,ex,_⟩:=I.aE p _ hk;exact⟨o,e,ex⟩
   obtain⟨o,e,ex⟩:=z;refine⟨⟨o,e,ex.1⟩,λa e2=>?_⟩;cases e2;exact⟨o,e,ex.2.1⟩
  .obtain⟨o,_,_,_,e,ex,_⟩:=I.aE p _ hk;refine⟨⟨o,e,ex.1⟩,λa e2=>?_⟩;cases e2;exact⟨o,e,ex.2.1⟩
 |_=>exact False.elim ty
def tBM(K:PySem.W.Frag)(T:String)(r:V->List V->Hp->VK->Prop)(to:TE)(t:TA):TE:=λσ H Q=>to σ H λx H1=>Mh K T x H1/\t σ H1 λxs H2=>r x xs H2 Q
variable{T id:String}
theorem yP(pa:PlainAttrs T)(slot:Slot T name id)(Gf:typeOf (.builtin id)=pure (.type "method_descriptor"))(hm:DM X id r)(ho:PE X o to)(ha:PA X (e::es) t)
  (lQ:attributeBase o name X.env (eval o X.env)=eval o X.env:=by rfl)
  (lG:((backTo fP (starEach (e::es) X.env)).all (λx=>!x.1)&&(backToKw fP (keywordEach [] X.env)).all (λx=>x.1.isSome)
   && decide ((e::es).length+([]:List Keyword).length+(if([]:List Keyword).isEmpty then 0 else 1)<30))=true:=by rfl)
  (lU:(apos.endLine==fP.line)=true:=by rfl) (hs:starEach (e::es) X.env=(false,eval e X.env)::starEach es X.env:=by rfl) (SQ:(backTo fP (starEach es X.env)).any (·.1)=false:=by rfl) :
  PE X (.Call (.Attribute o name apos) (e::es) [] fP) (tBM X.K T r to t):=by
 exists 47;refine wpAny_Call_method_late lQ lG lU rfl (aM (ho af s σ H _ I h) λv s1 ⟨x,H1,I1,r1,ty,q1⟩=>?_);obtain⟨h1,h2⟩:=aa9 I1 r1 ty;refine⟨T,id,pa,slot,Gf,h1,h2,?_⟩;have hA:=ha fP af s1 σ H1 _ I1 q1;rw[hs] at hA ⊢;refine Calls.callWith_builtin (by show(false||(backTo fP (starEach es X.env)).any (·.1))=false;rw[SQ]<;>rfl) (Calls.evalArgs_plain ?_);exact aM hA λus s2 ⟨vs,H2,I2,r2,q2⟩=>hm af s2 σ H2 x vs v us Q I2 r1 r2 q2
end
def OT(X:Cx)(id:String)(r:V->List V->Hp->VK->Prop):Prop:=
 ∀(af) (s) (σ) (H) (x) (xs) (v) (us) (Q),Inv X af σ H s->RelV x v->aU xs us->r x xs H Q->
  Y1 X X.A (call (.builtin id) (v::us)) (EP X af σ Q) X.xe s
theorem aU.one:∀{x} {us},aU [x] us->∃u,us=[u]/\RelV x u
 |_,_,.cons r .nil=>⟨_,rfl,r⟩
theorem aU.eraseIdx:∀{xs} {us} (i),aU xs us->aU (xs.eraseIdx i) (us.eraseIdx i)
 |_,_,_,.nil=>.nil
 |_,_,0,.cons _ t=>t
 |_,_,i+1,.cons r t=>.cons r (aU.eraseIdx i t)
theorem Inv.NK{au its':List Value}(I:Inv X af σ H s)(hH:H l=some (.lst xs))
  (e:s.heap.get? l=some { cls:=.type "list",data:=.seq au.toArray n }) (hf:f au.toArray=its'.toArray) (hv:aU ys its') (hz:ys.length<=sizeLine) :
  Inv X af σ (upd H l (.lst ys)) { s with heap:=s.heap.update l (Obj.mapSeq f),toks:=t' }:=by
 have q:=PySem.IsL.update e f;rw[hf] at q;refine I.write (by rw[hH];exact trivial) (.inl rfl) (λb' u hb hu=>(aep s.heap (Obj.mapSeq f) (afr hb)).trans hu) ⟨_,q⟩ ?_;exact⟨hz,its',_,hv,q⟩
theorem Inv.afj(I:Inv X af σ H s)(hv:aU ys au)(hz:ys.length<=sizeLine):
  Inv X af σ (upd H s.heap.objs.size (.lst ys)) { s with heap:=s.heap.push { cls:=.type "list",data:=.seq au.toArray },toks:=t' }:=
 I.laid (λ_ _ q=>aaT _ q) (abT _) ⟨hz,au,0,hv,ab3 _ rfl⟩
theorem Inv.fresh(I:Inv X af σ H s):H s.heap.objs.size=none:=I.aE.fresh (abT _)
theorem Inv.A3(I:Inv X af σ H s)(hH:H l=some (.lst xs)):xs.length<=sizeLine/\∃(au:List Value) (n:Nat),aU xs au/\xs.length=au.length/\s.heap.get? l=some { cls:=.type "list",data:=.seq au.toArray n }:=by
 obtain⟨z,au,n,r,e⟩:=I.aE l _ hH;exact⟨z,au,n,r,r.length,e⟩
def abI:V->List V->Hp->VK->Prop:=λx vs H Q=>∃l xs y,x=.ref l/\vs=[y]/\H l=some (.lst xs)/\xs.length<sizeLine/\Q .aA (upd H l (.lst (xs++[y])))
theorem D6:OT X "list.append" abI:=by
 exists 43;obtain⟨l,xs,y,rfl,rfl,hH,hz,q⟩:=h;cases rx;obtain⟨u,rfl,ru⟩:=rv.one;obtain⟨z,au,n,r,hl,e⟩:=I.A3 hH;refine call_meets F.slot_list_append ⟨_,e,rfl⟩ F.entry_list_append (F.args_list_append_2 _ _) (PySem.list_append l au.toArray n u (by rw[ab2];omega)) ⟨e,?_⟩;refine⟨.aA,_,I.NK (its':=au++[u]) hH e (by simp) (r.append (.cons ru .nil)) ?_,rfl,q⟩;rw[abN,aeh];omega
def TJ:R2:=λx y H Q=>∃l b xs zs,x=.ref l/\y=.ref b/\H l=some (.lst xs)/\H b=some (.lst zs)/\xs.length+zs.length<=sizeLine/\∀p,H p=none->Q (.ref p) (upd H p (.lst (xs++zs)))
theorem aaX:c_ X (binaryOp .Add) TJ:=by
 exists 44;obtain⟨l,b,xs,zs,rfl,rfl,hH,hB,hz,q⟩:=h;cases rx;cases ry;obtain⟨z,au,n,r,hl,e⟩:=I.A3 hH;obtain⟨z2,Of,n2,r2,tP,e2⟩:=I.A3 hB;refine PySem.P.add_list e e2 ?_ (by rw[ab2,ab2];omega);have ea:au.toArray++Of.toArray=(au++Of).toArray:=by simp
 rw[ea];exact⟨.ref _,_,I.afj (r.append r2) (by rw[abN];omega),rfl,q _ I.fresh⟩
section
variable[DecidableEq κ]
def eF(ak:List (κ×V))(k:κ):Option V:=(ak.find? λkv=>decide (kv.1=k)).map (·.2)
def putK(ak:List (κ×V))(k:κ)(v:V):List (κ×V):=
 if(ak.any λkv=>decide (kv.1=k))=true then ak.map (λkv=>if kv.1=k then(kv.1,v) else kv) else ak++[(k,v)]
theorem za{k:κ}(e:p.1=k):eF (p::r) k=some p.2:=by simp[eF,adz,e]
theorem yW{k:κ}(e:¬p.1=k):eF (p::r) k=eF r k:=by simp[eF,adz,e]
theorem Gz(k:κ):∀ak:List (κ×V),(ak.any λkv=>decide (kv.1=k))=(eF ak k).isSome
 |[]=>rfl
 |p::r=>by
  rw[afy]
  by_cases e:p.1=k
  .simp only[za e,aa1 e,Bool.true_or,Option.isSome_some]
  .rw[yW e,abR e,Bool.false_or];exact Gz k r
theorem G2(ak:List (κ×V))(k:κ)(v:V):(putK ak k v).length<=ak.length+1:=by
 unfold putK
 split
 .rw[List.length_map];omega
 .rw[abN,acf,List.length_nil];omega
theorem g8.uR(r:g8 o u):o.isSome=u.isSome:=by
 cases o with
 |none=>cases u with
  |none=>rfl
  |some _=>exact(show False from r).elim
 |some _=>cases u with
  |none=>exact(show False from r).elim
  |some _=>rfl
theorem g8.getD(r:g8 o u)(rd:RelV d d'):RelV (o.getD d) (u.getD d'):=by
 cases o with
 |none=>cases u with
  |none=>exact rd
  |some _=>exact(show False from r).elim
 |some _=>cases u with
  |none=>exact(show False from r).elim
  |some _=>exact r
theorem KV.val(r:KV ak vs)(k:κ):g8 (eF ak k) (valueAt vs k):=by
 unfold KV at r
 induction r with
 |nil=>exact True.intro
 | @cons p q ps qs h t ih=>
  obtain⟨h1,h2⟩:=h
  by_cases e:p.1=k
  .have e':=h1.symm.trans e;have b:valueAt (q::qs) k=some q.2:=by simp[valueAt,adz,e']
   rw[za e,b];exact h2
  .have e':¬q.1=k:=λz=>e (h1.trans z)
   have b:valueAt (q::qs) k=valueAt qs k:=by simp[valueAt,adz,e']
   rw[yW e,b];exact ih
theorem KV.any(r:KV ak vs)(k:κ):(ak.any λkv=>decide (kv.1=k))=vs.any λkv=>decide (kv.1=k):=by
 unfold KV at r
 induction r with
 |nil=>rfl
 |cons h t ih=>rw[afy,afy,ih,h.1]
theorem KV.HS(r:KV ak vs)(k:κ)(ry:RelV y u):
  KV (ak.map λkv=>if kv.1=k then(kv.1,y) else kv) (vs.map λkv=>if kv.1=k then(kv.1,u) else kv):=by
 unfold KV at r ⊢
 induction r with
 |nil=>exact .nil
 | @cons p q ps qs h t ih=>
  rw[aas,aas];refine .cons ?_ ih;obtain⟨h1,h2⟩:=h
  by_cases e:p.1=k
  .rw[if_pos e,if_pos (h1.symm.trans e)];exact⟨h1,ry⟩
  .rw[if_neg e,if_neg (λz=>e (h1.trans z))];exact⟨h1,h2⟩
theorem KV.put(r:KV ak vs)(k:κ)(ry:RelV y u):KV (putK ak k y) (stored vs k u):=by
 unfold putK stored;rw[r.any k]
 by_cases e:(vs.any λkv=>decide (kv.1=k))=true
 .rw[if_pos e,if_pos e];exact r.HS k ry
 .rw[if_neg e,if_neg e];exact Paired.snoc r ⟨rfl,ry⟩
theorem KV.keys{vs:List (κ×Value)}(r:KV ak vs):ak.map (·.1)=vs.map (·.1):=by
 unfold KV at r
 induction r with
 |nil=>rfl
 |cons h t ih=>rw[aas,aas,ih,h.1]
theorem KV.length(r:KV ak vs):ak.length=vs.length:=Paired.length r
end
theorem sD(r:RelV (kV k) u):(gQ P w).is k u=true:=by
 cases k with
 |inl i=>obtain⟨t,e⟩:=(show ∃t,u=Value.int i t from r);subst e;exact aaI P w i t
 |inr x=>obtain⟨t,e⟩:=(show ∃t,u=Value.str x t from r);subst e;exact YS P w x t
theorem CT:∀{ks} {us},aU (ks.map kV) us->ItemsAre (gQ P w) ks us
 |[],_,r=>by rw[ag9] at r;cases r;exact .nil
 |k::ks,_,r=>by
  rw[aas] at r;cases r with
  |cons h t=>exact .cons (sD h) (CT t)
abbrev KT(H:Hp):List (List Key×V)->List (List Key×Addr×Value)->Prop:=Paired λp q=>p.1=q.1/\Tk H q.2.1 (p.1.map kV)/\RelV p.2 q.2.2
theorem KT.val(r:KT H ak xs)(k:List Key):g8 (eF ak k) ((atKey xs k).map (·.2)):=by
 induction r with
 |nil=>exact True.intro
 | @cons p q ps qs h t ih=>
  obtain⟨h1,_,h2⟩:=h
  by_cases e:p.1=k
  .have e':=h1.symm.trans e;have b:atKey (q::qs) k=some q.2:=by simp[atKey,adz,e']
   rw[za e,b];exact h2
  .have e':¬q.1=k:=λz=>e (h1.trans z)
   have b:atKey (q::qs) k=atKey qs k:=by simp[atKey,adz,e']
   rw[yW e,b];exact ih
theorem KT.HS(r:KT H ak xs)(k:List Key)(ry:RelV y u):
  KT H (ak.map λkv=>if kv.1=k then(kv.1,y) else kv) (xs.map (putAt k u)):=by
 induction r with
 |nil=>exact .nil
 | @cons p q ps qs h t ih=>
  rw[aas,aas];refine .cons ?_ ih;obtain⟨h1,h2,h3⟩:=h;unfold putAt
  by_cases e:p.1=k
  .rw[if_pos e,if_pos (h1.symm.trans e)];exact⟨h1,h2,ry⟩
  .rw[if_neg e,if_neg (λz=>e (h1.trans z))];exact⟨h1,h2,h3⟩
theorem KT.put(r:KT H ak xs)(k:List Key)(hb:Tk H b (k.map kV))(ry:RelV y u):
  KT H (putK ak k y) (storedH xs k b u):=by
 have e:(ak.any λkv=>decide (kv.1=k))=(atKey xs k).isSome:=by
  rw[Gz,(r.val k).uR,agx]
 unfold putK storedH;rw[e]
 by_cases q:(atKey xs k).isSome=true
 .rw[if_pos q,if_pos q];exact r.HS k ry
 .rw[if_neg q,if_neg q];exact Paired.snoc r ⟨rfl,hb,ry⟩
theorem KT.keeps(r:KT H ak xs)(ht:∀b (t:lH),H b=some t.ho->H' b=some t.ho):KT H' ak xs:=
 Paired.Cb r λ_ _ z=>⟨z.1,let⟨t,e,g⟩:=z.2.1;⟨t,e,ht _ t g⟩,z.2.2⟩
theorem LV(ok:cM P w H h)(e:Rd H a u):di P w H h a u:=e.ok ok
theorem oX(ok:cM P w H h)(e:Rd H a (.dK ak)):ak.length<=sizeLine/\(a==sysModules)=false/\∃vs,KV ak vs/\h.DictOf (gQ P w) a vs:=
 show di P w H h a (.dK ak) from LV ok e
theorem LR(ok:cM P w H h)(e:H a=some (.dK ak)):ak.length<=sizeLine/\(a==sysModules)=false/\∃vs,KV ak vs/\h.DictOf (gQ P w) a vs:=oX ok (.inl e)
theorem uU{ks:List Key}(ok:cM P w H h)(e:Tk H a (ks.map kV)):(tupleKind (gQ P w)).is h ks a:=by
 have q:di P w H h a (.tup (ks.map kV)):=by
  obtain⟨t,e1,e2⟩:=e;cases t with
  |tup xs=>cases e1;exact ok a _ e2
  |vQ o xs=>cases e1;exact(ok a _ e2).2
  |iw _ _=>cases e1
  |jb _=>cases e1
 obtain⟨_,au,r,o,h1,h2,_,n,h3⟩:=q;exact⟨o,au.toArray,n,h1,h2,h3,by simpa using CT r⟩
theorem nN(ok:cM P w H h)(e:Rd H a (.dT ak)):ak.length<=sizeLine/\(a==sysModules)=false/\
  ∃xs,KT H ak xs/\h.DictOfH (tupleKind (gQ P w)) a xs:=by
 obtain⟨z,y,xs,r,o,es,ep,h1,h2,h3,h4,h5⟩:=(show di P w H h a (.dT ak) from LV ok e)
 refine⟨z,y,xs,r,o,es,ep,h1,h2,h3,h4,λx hx=>?_,h5⟩;have all:∀{l} {m},KT H l m->∀x∈m,(tupleKind (gQ P w)).is h x.1 x.2.1:=by
  intro l m q
  induction q with
  |nil=>intro x hx;exact nomatch hx
  | @cons p q ps qs hq t ih=>
   intro x hx;rcases abb.mp hx with e|hx
   .subst e;exact uU ok (by rw[<- hq.1];exact hq.2.1)
   .exact ih x hx
 exact all r x hx
theorem U_(ok:cM P w H h)(e:H a=some (.dT ak)):ak.length<=sizeLine/\(a==sysModules)=false/\
  ∃xs,KT H ak xs/\h.DictOfH (tupleKind (gQ P w)) a xs:=nN ok (.inl e)
def h_(H:Hp)(a:Addr)(y:V)(r:Option V):Prop:=
 (∃ak k,Rd H a (.dK ak)/\y=kV k/\r=eF ak k)\/∃ak k b,Rd H a (.dT ak)/\y=.ref b/\Tk H b (k.map kV)/\r=eF ak k
def oZ(H:Hp)(a:Addr)(y v:V)(H':Hp):Prop:=
 (∃ak k,H a=some (.dK ak)/\y=kV k/\ak.length<sizeLine/\H'=upd H a (.dK (putK ak k v)))\/
 ∃ak k b,H a=some (.dT ak)/\y=.ref b/\Tk H b (k.map kV)/\ak.length<sizeLine/\H'=upd H a (.dT (putK ak k v))
theorem h_.k{k:Key}(e:H a=some (.dK ak)):h_ H a (kV k) (eF ak k):=.inl ⟨ak,k,.inl e,rfl,rfl⟩
theorem h_.t{k:List Key}(e:H a=some (.dT ak))(eb:Tk H b (k.map kV)):h_ H a (.ref b) (eF ak k):=.inr ⟨ak,k,b,.inl e,rfl,eb,rfl⟩
theorem oZ.k{k:Key}(e:H a=some (.dK ak))(hl:ak.length<sizeLine):oZ H a (kV k) v (upd H a (.dK (putK ak k v))):=.inl ⟨ak,k,e,rfl,hl,rfl⟩
theorem oZ.t{k:List Key}(e:H a=some (.dT ak))(eb:Tk H b (k.map kV))(hl:ak.length<sizeLine):
  oZ H a (.ref b) v (upd H a (.dT (putK ak k v))):=.inr ⟨ak,k,b,e,rfl,eb,hl,rfl⟩
theorem Inv.big(I:Inv X af σ H s):sysModules<s.heap.objs.size:=by
 have h:=(I.mod.glob.keeps I.bk).lt;exact Nat.lt_trans (by decide) h
theorem af0(hu:A.units+1<cLine)(I:Inv X af σ H s)(g:h_ H a y (some v))(ry:RelV y u)(h:∀w' s',Inv X af σ H s'->RelV v w'->Q w' s'):
  wpAny (model X.prog X.w) A (getItem (.ref a) u) Q E s:=by
 exists 74
 .subst ey;exists 77;obtain⟨w',hw,eW⟩:=g8.some_of (by rw[l];exact rel.val k);exact wpAny_getItem_of (sD ry) dd.mapOf hw (h w' _ (I.tok _) eW)
 .subst ey;cases(show u=Value.ref b from ry);obtain⟨z,hd,xs,rel,dd⟩:=nN I.aE e;obtain⟨w',hw,eW⟩:=g8.some_of (by rw[l];exact rel.val k);obtain⟨p,hp,tM⟩:=acq.mp hw;refine wpAny_getItem_heap (agu hu) (uU I.aE eb) dd hp ?_;rw[tM];exact h w' _ (I.tok _) eW
theorem VO(hu:A.units+1<cLine)(I:Inv X af σ H s)(g:h_ H a y o)(ry:RelV y u)(h:∀s',Inv X af σ H s'->Q (.bool o.isSome) s'):
  wpAny (model X.prog X.w) A (compareOp .In u (.ref a)) Q E s:=by
 exists 74
 .subst ey;exists 77;refine wpAny_in_of (sD ry) hd dd.mapOf ?_;rw[<- (rel.val k).uR,<- l];exact h _ (I.tok _)
 .subst ey;cases(show u=Value.ref b from ry);obtain⟨z,hd,xs,rel,dd⟩:=nN I.aE e;refine wpAny_in_heap (agu hu) (uU I.aE eb) hd dd ?_;have q:=(rel.val k).uR;rw[agx] at q;rw[<- q,<- l];exact h _ (I.tok _)
theorem Zb(hu:A.units+1<cLine)(I:Inv X af σ H s)(g:h_ H a y o)(ry:RelV y u)(h:∀s',Inv X af σ H s'->Q (.bool (!o.isSome)) s'):
  wpAny (model X.prog X.w) A (compareOp .NotIn u (.ref a)) Q E s:=by
 exists 74
 .subst ey;exists 77;refine wpAny_notIn_of (sD ry) hd dd.mapOf ?_;rw[<- (rel.val k).uR,<- l];exact h _ (I.tok _)
 .subst ey;cases(show u=Value.ref b from ry);obtain⟨z,hd,xs,rel,dd⟩:=nN I.aE e;refine wpAny_notIn_heap (agu hu) (uU I.aE eb) hd dd ?_;have q:=(rel.val k).uR;rw[agx] at q;rw[<- q,<- l];exact h _ (I.tok _)
theorem OL(I:Inv X af σ H s)(mu:yc (H a))(hs:Heap.SameBut a s.heap h')(he:∃q,h'.get? a=some q)(new:di X.prog X.w (upd H a ob) h' a ob):
  Inv X af σ (upd H a ob) { s with heap:=h',toks:=t' }:=
 I.write mu (.inl rfl) (λb q hb z=>(hs.2 b hb).trans z) he new
theorem Fj(z:ak.length<=sizeLine)(hd:(a==sysModules)=false)(rel:KV ak vs)(dd:h'.DictOf (gQ P w) a vs):
  di P w H' h' a (.dK ak):=⟨z,hd,vs,rel,dd⟩
theorem aeG(hu:A.units+1<cLine)(I:Inv X af σ H s)(g:oZ H a y v H')(ry:RelV y u)(rv:RelV v r)(h:∀s',Inv X af σ H' s'->Q () s'):
  wpAny (model X.prog X.w) A (setItem (.ref a) u r) Q E s:=by
 rcases g with⟨ak,k,e,ey,l,eH⟩|⟨ak,k,b,e,ey,eb,l,eH⟩
 .subst ey eH;obtain⟨z,hd,vs,rel,dd⟩:=LR I.aE e;have hz:vs.length<=sizeLine:=by rw[<- rel.length];exact z
  have hl:(putK ak k v).length<=sizeLine:=by have:=G2 ak k v;omega
  refine wpAny_setItem_pairs (hsz:=hz) (sD ry) dd λh' jW hs=>h _ ?_
  have he:∃q,h'.get? a=some q:=let⟨q,_,_,hq,_⟩:=jW;⟨q,hq⟩
  exact OL I (by rw[e];exact True.intro) hs he (Fj hl hd (rel.put k rv) jW)
 .subst ey eH;cases(show u=Value.ref b from ry);obtain⟨z,hd,xs,rel,dd⟩:=U_ I.aE e;have hz:xs.length<=sizeLine:=by rw[<- Paired.length rel];exact z
  have hl:(putK ak k v).length<=sizeLine:=by have:=G2 ak k v;omega
  refine wpAny_setItem_heap (hsz:=hz) (agu hu) (uU I.aE eb) dd λh' jW hs=>h _ ?_
  obtain⟨q,es,ep,hq,h2,h3,h4,_,h5⟩:=jW;refine OL I (by rw[e];exact True.intro) hs ⟨q,hq⟩ ⟨hl,hd,_,(rel.put k eb rv).keeps λc ys ec=>?_,q,es,ep,hq,h2,h3,h4,h5⟩;rw[aP (XQ ec e (by cases ys<;>intro z<;>cases z))];exact ec
theorem aee(I:Inv X af σ H s)(e:Rd H a (.dK ak))(h:∀t s',Inv X af σ H s'->Q (.int ak.length t) s'):wpAny (model X.prog X.w) A (call (.builtin "len") [.ref a]) Q E s:=by
 exists 77;refine call_len_dict hd dd (by rw[<- rel.length];rw[aeV] at z;omega) ?_;rw[<- rel.length];exact h _ _ (I.tok _)
def yr(i:Expr):Prop:=∀ov iv,subscripted i false ov iv=operate [ov,iv] (getItem ov iv)
theorem N6{T id:String}
  (hl:typeLookup (.type T) "__getitem__"=pure (some (.builtin id))) (hs:yr slice)
  (h:wpAny (model prog w) A (eval value env) (λo bO=>wpAny (model prog w) A (eval slice env) (λi qu=>qu.TypeIs o T/\wpAny (model prog w) A (getItem o i) Q E qu) E bO) E s) :
  wpAny (model prog w) A (eval (.Subscript value slice pos) env) Q E s:=by
 refine Subscript_ (adU h (λo bO zO=>adU zO (λi qu Fx=>?_) λ_ _ x=>x) λ_ _ x=>x);obtain⟨hT,Fx⟩:=Fx;unfold subscriptTail;refine aa7 ?_;rw[getitemInPython_of_ne hT.not_modules];refine aa7 (wpAny_specialOf hT hl ?_);have fin:wpAny (model prog w) A (subscripted slice false o i) (λr BN=>wpAny (model prog w) A (letTemporaryGo value o r >>= λ_=>pure r) Q E BN) E qu:=by
  rw[hs o i];exact wpAny_operating (adU Fx (λr BN Yv=>aa7 (wpAny_letTemporaryGo (acD Yv))) λ_ _ x=>x)
 first
  |exact acD (aa7 fin)
  |exact aa7 (acD (aa7 fin))
  |exact aa7 fin
theorem acm(I:Inv X af σ H s)(g:h_ H a y o):s.TypeIs (.ref a) "dict":=by
 rcases g with⟨ak,k,e,_,_⟩|⟨ak,k,b,e,_,_,_⟩
 .obtain⟨_,_,vs,_,dd⟩:=oX I.aE e;exact dd.typeIs
 .obtain⟨_,_,xs,_,dd⟩:=nN I.aE e;exact dd.typeIs
def WD(td ty:TE):TE:=λσ H Q=>td σ H λx H1=>ty σ H1 λy H2=>∃a v,x=.ref a/\h_ H2 a y (some v)/\Q v H2
def aae(ty td:TE):TE:=λσ H Q=>ty σ H λy H1=>td σ H1 λx H2=>∃a o,x=.ref a/\h_ H2 a y o/\Q (.bl o.isSome) H2
def aaP(ty td:TE):TE:=λσ H Q=>ty σ H λy H1=>td σ H1 λx H2=>∃a o,x=.ref a/\h_ H2 a y o/\Q (.bl (!o.isSome)) H2
def WA(td ty tv:TE):TS:=λD σ H=>tv σ H λv H1=>td σ H1 λx H2=>ty σ H2 λy H3=>∃a H4,x=.ref a/\oZ H3 a y v H4/\D.nx σ H4
theorem af6(hu:X.A.units+1<cLine)(ho:PE X o td)(hi:PE X i ty)(hs:yr i):PE X (.Subscript o i pos) (WD td ty):=by
 exists 47;refine N6 PySem.F.slot_dict_getitem.lookup hs (aM (ho af s σ H _ I h) λu s1 ⟨x,H1,I1,rx,q1⟩=>aM (hi af s1 σ H1 _ I1 q1) λiv s2 ⟨y,H2,I2,ry,a,v,ex,g,q2⟩=>?_);subst ex;exists 66;exact⟨acm I2 g,af0 hu I2 g ry λw' s3 I3 eW=>⟨v,H2,I3,eW,q2⟩⟩
theorem Pp(hu:X.A.units+1<cLine)(hi:PE X i ty)(ho:PE X o td):PC X .In i o (aae ty td):=by
 exists 47;exists 57
 subst ex;exists 66;exact VO hu I2 g ry λs3 I3=>⟨.bl ov.isSome,H2,I3,rfl,q2⟩
theorem aeK(hu:X.A.units+1<cLine)(hi:PE X i ty)(ho:PE X o td):PC X .NotIn i o (aaP ty td):=by
 exists 47;exists 57
 subst ex;exists 66;exact Zb hu I2 g ry λs3 I3=>⟨.bl (!ov.isSome),H2,I3,rfl,q2⟩
theorem Bu(hu:X.A.units+1<cLine)(ho:PE X o td)(hi:PE X i ty)(hv:PE X value tv)(hs:swapsWith value (some (.Subscript o i pos')) pos.line X.env=pure false):
  PS X (.Assign [.Subscript o i pos'] value pos) (WA td ty tv):=by
 exists 48;refine wpAny_Assign_Subscript (aM (hv af s σ H _ I h) λr s1 ⟨v,H1,I1,rv,q1⟩=>aM (ho af s1 σ H1 _ I1 q1) λu s2 ⟨x,H2,I2,rx,q2⟩=>aM (hi af s2 σ H2 _ I2 q2) λiv s3 ⟨y,H3,I3,ry,a,H4,ex,g,q3⟩=>?_) hs;subst ex;exists 66;exact aeG hu I3 g ry rv λs4 I4=>⟨σ,H4,I4,q3⟩
theorem aaG(h:Heap)(hb:sysModules<h.objs.size):di P w H (h.push { cls:=.type "dict",data:=.dict #[] }) h.objs.size (.dK []):=
 ⟨aes _,ado.mpr (afr (acI hb)),[],.nil,Heap.DictOf.new h⟩
theorem Vh(h:Heap)(hb:sysModules<h.objs.size):di P w H (h.push { cls:=.type "dict",data:=.dict #[] }) h.objs.size (.dT []):=
 ⟨aes _,ado.mpr (afr (acI hb)),[],.nil,_,#[],0,ab3 _ rfl,⟨rfl,rfl,rfl⟩,rfl,rfl,acj⟩
def Vb:TE:=λ_ H Q=>∀p,H p=none->Q (.ref p) (upd H p (.dK []))
def afP:TE:=λ_ H Q=>∀p,H p=none->Q (.ref p) (upd H p (.dT []))
theorem aa2:PE X (.Dict [] [] pos) Vb:=λaf s σ H Q I h=>
 wpAny_Dict_empty ⟨.ref s.heap.objs.size,_,I.laid (λ_ _ q=>aaT _ q) (abT _) (aaG s.heap I.big),rfl,h _ (I.aE.fresh (abT _))⟩
theorem UH:PE X (.Dict [] [] pos) afP:=λaf s σ H Q I h=>
 wpAny_Dict_empty ⟨.ref s.heap.objs.size,_,I.laid (a:=s.heap.objs.size) (o:=.dT []) (t':=s.toks) (λ_ _ q=>aaT _ q) (abT _) (Vh s.heap I.big),rfl,h _ (I.aE.fresh (abT _))⟩
structure M2(X:Cx)(o:Expr)(m:Str)(apos:Pos)(e f:Expr)(fP:Pos):Prop where
 base:attributeBase o m X.env (eval o X.env)=eval o X.env
 few:((backTo fP (starEach [e,f] X.env)).all (λx=>!x.1)&&(backToKw fP (keywordEach [] X.env)).all (λx=>x.1.isSome)
  && decide (([e,f]:List Expr).length+([]:List Keyword).length+(if([]:List Keyword).isEmpty then 0 else 1)<30))=true
 line:(apos.endLine==fP.line)=true
 trees:backTo fP (starEach [e,f] X.env)=[(false,eval e X.env),(false,eval f X.env)]
def P8(H:Hp)(a:Addr):Prop:=(∃ak,Rd H a (.dK ak))\/∃ak,Rd H a (.dT ak)
theorem YH(I:Inv X af σ H s)(d:P8 H a):
  s.TypeIs (.ref a) "dict"/\(∀b,Value.ref a=.ref b->∃ob,s.heap.get? b=some ob/\ob.dict=none)/\(a==sysModules)=false:=by
 rcases d with⟨ak,e⟩|⟨ak,e⟩
 .obtain⟨_,hd,vs,_,dd⟩:=oX I.aE e;refine⟨dd.typeIs,λb q=>?_,hd⟩;cases q;obtain⟨ob,_,_,h1,h2,_⟩:=dd;exact⟨ob,h1,h2.2.1⟩
 .obtain⟨_,hd,xs,_,dd⟩:=nN I.aE e;refine⟨dd.typeIs,λb q=>?_,hd⟩;cases q;obtain⟨ob,_,_,h1,h2,_⟩:=dd;exact⟨ob,h1,h2.2.1⟩
theorem X8(hu:A.units+1<cLine)(I:Inv X af σ H s)(g:h_ H a y o)(ry:RelV y u)(rd:RelV d r)(h:∀w' s',Inv X af σ H s'->RelV (o.getD d) w'->Q w' s'):
  wpAny (model X.prog X.w) A (call (.builtin "dict.get") [.ref a,u,r]) Q E s:=by
 exists 74
 .subst ey;exists 77;refine call_meetsIn PySem.F.slot_dict_get dd.typeIs PySem.F.entry_dict_get (PySem.F.args_dict_get_3 _ _ _) (meets_dict_get_default (gQ X.prog X.w) a (sD ry) hd r) ⟨_,dd.mapOf,h _ _ (I.tok _) ?_⟩;rw[l];exact(rel.val k).getD rd
 .subst ey;cases(show u=Value.ref b from ry);obtain⟨z,hd,xs,rel,dd⟩:=nN I.aE e;refine call_meetsIn PySem.F.slot_dict_get dd.typeIs PySem.F.entry_dict_get (PySem.F.args_dict_get_3 _ _ _) (meetsH_dict_get_default (tupleKind (gQ X.prog X.w)) a b hd r) ⟨agu hu,k,xs,uU I.aE eb,dd,h _ _ (I.tok _) ?_⟩;rw[l];exact(rel.val k).getD rd
def WC(td ty tx:TE):TE:=λσ H Q=>td σ H λx H1=>∃a,x=.ref a/\P8 H1 a/\ty σ H1 λy H2=>tx σ H2 λz H3=>∃o,h_ H3 a y o/\Q (o.getD z) H3
theorem DW(hu:X.A.units+1<cLine)(ho:PE X o td)(he:PE X e ty)(hf:PE X f tx)(m:M2 X o "get" apos e f fP):PE X (.Call (.Attribute o "get" apos) [e,f] [] fP) (WC td ty tx):=by
 exists 47;refine wpAny_Call_method m.base m.few m.line PySem.F.plainAttrs_dict PySem.F.slot_dict_get PySem.F.type_dict_get (aM (ho af s σ H _ I h) λu s1 ⟨x,H1,I1,rx,a,ex,d,q1⟩=>?_);subst ex;exists 66;obtain⟨t1,t2,_⟩:=YH I1 d;refine⟨t1,t2,?_⟩;rw[m.trees];refine Calls.callWith_builtin rfl (Calls.evalArgs_plain (Calls.spliced_cons (aM (he af s1 σ H1 _ I1 q1) λiv s2 ⟨y,H2,I2,ry,q2⟩=>
  Calls.spliced_cons (aM (hf af s2 σ H2 _ I2 q2) λfv s3 ⟨z,H3,I3,rz,ov,g,q3⟩=>Calls.spliced_nil ?_))))
 exact X8 hu I3 g ry rz λw' s4 I4 eW=>⟨_,H3,I4,eW,q3⟩
theorem afY(I:Inv X af σ H s)(e:Rd H a (.dK ak))(h:∀p s',H p=none->Inv X af σ (upd H p (.dK ak)) s'->Q (.ref p) s'):wpAny (model X.prog X.w) A (call (.type "dict") [.ref a]) Q E s:=by
 exists 77;refine kt_call_dict hd dd (by rw[<- rel.length];exact z) λh' jW hs=>?_
 refine h _ _ (I.aE.fresh (abT _)) (I.laid (λb q hq=>?_) (abT _) (Fj z (ado.mpr (afr (acI I.big))) rel jW));exact(hs.2 b (acI (abM hq))).trans (aaT _ hq)
end L2
namespace Mb
open PySem PySem.W PySem.Calls PyProof.Rows
theorem ad9:∀(ns) (vs),WellAll P h vs (ns.map WData.int)->IntsAre vs ns:=by
 intro ns
 induction ns with
 |nil=>
  intro vs w;rw[ag9] at w;cases w;exact .nil
 |cons n ns ih=>
  intro vs w;rw[aas] at w;cases w with
  |cons a b=>
   cases a;exact .cons _ _ (ih _ b)
theorem ack{l:OpenLaw}(hn:l.most=some n)
  (An:l.row.toRowW.claim.pre args=true) (CC:WellAll P h vals args) :
  ∃a vs ns,vals=[Value.ref a]/\args=[WData.list (ns.map WData.int)]/\h.get? a=some { cls:=.type "list",data:=.seq vs.toArray }/\IntsAre vs ns/\ns.length<=n:=by
 have hsh:=(pre_splitW An).1;have hc:l.pre.holds [] { args:=args }=true:=(pre_splitW An).2;obtain⟨d,r,rfl,h1,h2⟩:=hasAllW_cons hsh;obtain rfl:=hasAllW_nil h2;obtain⟨xs,rfl,h3⟩:=hasW_list h1;obtain⟨ns,rfl⟩:=items_int h3;have hlen:ns.length<=n:=by
  unfold OpenLaw.pre at hc;have h4:(WTm.not (.lt (.lit (.int (n:Int))) (.len (.arg 0)))).holds [] { args:=[.list (ns.map .int)] }=true:=by
   have h4:=(holds_andW hc).1;rw[hn] at h4;exact h4
  have h5:=condW_of h4 (w_not (w_lt w_lit (w_len_list (w_arg rfl))));rw[List.length_map] at h5;refine Nat.le_of_not_lt λq=>?_
  have q':(n:Int)<((ns.length:Nat):Int):=by omega
  first
   |(rw[aa1 q'] at h5;exact absurd h5 (by decide))
   |(simp at h5;omega)
 cases CC with
 |cons w1 w2=>
  cases w2;cases w1 with
  |list ho F_=>exact⟨_,_,ns,rfl,rfl,ho,ad9 ns _ F_,hlen⟩
theorem Z6(l:OpenLaw)(args:List WData):l.row.toRowW.claim.post args (.bool true) args=true:=
 postW_of (r:=l.row.toRowW) (X:=(true==true))
  (show WShape.has [] (.bool true) .bool=true by first|rfl|decide|simp[WShape.has,WShape.arms,WShape.armsAll])
  (show(WTm.eq .res (.lit (.bool true))).value [] { args:=args,res:=some (.bool true),after:=args }=some (.bool (true==true)) from w_eq_bool (w_res rfl) w_lit) rfl
theorem aal{l:OpenLaw}
  (hn:l.most=some n) (zp:d.params.defaults=[])
  (call:∀(w) (cG bO) (mg mb) (fa) (o) (pm cd doc) (a) (vs) (ns),
   Ground q loose [] XP w cG mg mb bO.heap->YP w bO.heap->
   bO.heap.get? fa=some o->o.data=.func (docDef d.name d.params d.body d.scope pm cd doc)->bO.heap.CodeRec cd d.name->mg d.name=some (.ref fa)->
   bO.heap.get? a=some { cls:=.type "list",data:=.seq vs.toArray }->IntsAre vs ns->ns.length<=n->bO.gens=#[]->
   codeAny (model l.prog w) callerA (.call (.ref fa) ⟨[.ref a],[]⟩) (λr s'=>r=.ok (.ret (.bool true))/\OldK bO.heap s'.heap/\s'.os=bO.os/\AllBare s'.gens) bO) :
  WalkO q loose XP YP l.row.toRowW d [] (λf vs=>PySem.call f vs):=by
 intro w cG bO mg mb G Y fa o pm cd doc dV kV ho hd g7 hD zE hg args vals as An agL qE CC wB;obtain rfl:dV=.none:=Dflts.none hD zp;obtain rfl:kV=.none:=Dflts.noKw hD;obtain⟨a,vs,ns,rfl,rfl,HX,hints,hlen⟩:=ack hn An CC;refine enter_call (codeAny_mono (call w cG bO mg mb fa o pm cd doc a vs ns G Y ho (fd_plain hd) g7 zE HX hints hlen hg) λr s' hq=>?_);obtain⟨rfl,h2,h3,h4⟩:=hq;exact⟨.inl ⟨.bool true,.bool true,[],rfl,λ_=>rfl,.bool true,Z6 l _,λ_=>⟨List.Pairwise.nil,λ_ hm=>(nomatch hm)⟩⟩,h2,h3,h4⟩
end Mb
namespace L2
open PySem PySem.Spec PyProof.Rows
theorem JA:∀{vs} {ns},IntsAre vs ns->aU (ns.map V.int) vs
 |_,_,.nil=>.nil
 |_,_,.cons n t h=>.cons ⟨t,rfl⟩ (JA h)
noncomputable abbrev c9:qf:=λ_ _ _ _ _ _=>False
noncomputable abbrev E0:XK:=λ_ _ _=>False
theorem nq:Passes c9 X E0:=λ_ _ _ _ _ _ _ h=>h.elim
structure jd(K:PySem.W.Frag)(x qual:Str)(st:Stmt)(f:Addr)(fd:FuncData):Prop where
 ex:∃(oc:Value) (od:Option Addr) (kV doc pm:Value) (an:Option Addr) (aR ct:Value) (qH:Array (Option Value)),
  fd=PySem.W.fnOf x qual (l8 st) (gO st) (cz st) .none kV doc pm an aR ct/\K.lookup f=some ⟨oc,od,.func fd,qH⟩/\PySem.W.codeIn K aR qual=true
 kp:PySem.W.keepIn K (.ref f)=true
section
variable{K:PySem.W.Frag}
theorem jd.ok{st:Stmt}(F:jd K x qual st f fd)(S:o7 N ps (cz st))(len:∀vs H Q E,sp vs H Q E->vs.length=ps.length)
  (yg:∀(aR:{c:Value // c=fd.code}) (A) (outer) (s) (H) (vs) (Q) (E),bu k (A.deeper (envOfC qual (cz st) s.heap.objs.size f aR)) cm->sp vs H Q E->
   ∃t,iH (fU c9 P w K mg base N qual (cz st) f aR A outer s H E cm).eZ (gO st) t/\t { nx:=λ_ H'=>Q .aA H',rt:=Q } (start N vs) H):bX P w K mg base c9 (k+1) f fd ps sp cm:=by
 obtain⟨oc,od,kV,doc,pm,an,aR,ct,qH,rfl,lk,g7⟩:=F.ex;refine NJ lk g7 S len λA outer s H vs Q E hr qF=>?_
 obtain⟨t,h,q⟩:=yg ⟨aR,rfl⟩ A outer s H vs Q E hr qF;exact⟨t,h.eZ,q⟩
theorem jd.binds{st:Stmt}(F:jd K x qual st f fd)
  (h:∀(kV doc pm) (an) (aR ct) (us),us.length=ps.length->bindArgs (PySem.W.fnOf x qual (l8 st) (gO st) (cz st) .none kV doc pm an aR ct) ⟨us,[]⟩=pure (ps.zip us)):Binds K fd ps []:=by
 obtain⟨oc,od,kV,doc,pm,an,aR,ct,qH,rfl,lk,g7⟩:=F.ex;exact .all (h kV doc pm an aR ct)
theorem Mx{st:Stmt}{kV doc pm aR ct:Value}(l:K.lookup f=some ⟨oc,od,.func (PySem.W.fnOf x qual (l8 st) (gO st) (cz st) .none kV doc pm an aR ct),qH⟩)
  (c:PySem.W.codeIn K aR qual=true) (k:PySem.W.keepIn K (.ref f)=true):jd K x qual st f (PySem.W.fnOf x qual (l8 st) (gO st) (cz st) .none kV doc pm an aR ct):=⟨⟨oc,od,kV,doc,pm,an,aR,ct,qH,rfl,l,c⟩,k⟩
end
theorem fY(hr:bu k A cm):A.units+1<cLine:=agF (Nat.add_le_add_left (by decide:1<=64) _) hr.units
theorem wg(h:n<=1000):n<sizeLine:=agF h (by decide)
theorem aax{A B:Prop}(h:B):if false=true then A else B:=by
 rw[if_neg abz];exact h
theorem adM{A B:Prop}(h:A):if true=true then A else B:=by
 rw[if_pos rfl];exact h
def aH(H H':Hp):Prop:=∀b o,H b=some o->H' b=some o
theorem aH.refl(H:Hp):aH H H:=λ_ _ h=>h
theorem aH.trans(a:aH H H1)(b:aH H1 H2):aH H H2:=λc o h=>b c o (a c o h)
theorem aH.free(e:aH H H')(h:H' l=Option.none):H l=Option.none:=by
 cases q:H l with
 |none=>rfl
 |some o=>
  rw[e l o q] at h;cases h
theorem ady:fX X (.builtin "len") (λxs H Q=>∃a ak,xs=[V.ref a]/\H a=some (.dK ak)/\Q (.int ak.length) H):=by
 exists 45;obtain⟨a,ak,rfl,ha,q⟩:=h;exists 81;cases ru;exact aee I (.inl ha) λt s' I'=>⟨.int ak.length,H,I',⟨t,rfl⟩,q⟩
noncomputable def RE(a:Addr)(cls:Value)(de:Option Addr):HO:=.ext λh=>∃oe,h.get? a=some oe/\oe.cls=cls/\(∀dx,de=some dx->oe.dict=some dx/\PySem.W.notCls oe=true)
theorem QV(e:h.get? a=some oe)(c:oe.cls=cls)(d:∀dx,de=some dx->oe.dict=some dx/\PySem.W.notCls oe=true):di P w H h a (RE a cls de):=
 ⟨⟨oe,e,c,d⟩,⟨oe,e⟩,λ_ _ ⟨o,q,z⟩ k=>⟨o,k o q,z⟩⟩
def yF(ob:Obj)(a:Addr)(cls:Value)(de:Option Addr):HO:=.eU ob (RE a cls de)
theorem Vt(x:cM P w H h)(e:H a=some (yF ob a cls de)):∃oe,h.get? a=some oe/\oe.cls=cls:=let⟨oe,a,b,_⟩:=(x a _ e).2.1;⟨oe,a,b⟩
noncomputable def FO(n:Nat)(t:Tok):Str->Option Value:=λy=>if y="slot" then some (.int n t) else none
def Dy(dx:Addr)(n:Nat):HO:=.ext λh=>∃t,h.Ns1 dx (FO n t)
theorem Zw(e:h.Ns1 dx (FO n t)):di P w H h dx (Dy dx n):=
 ⟨⟨t,e⟩,let⟨o,_,_,q,_⟩:=e;⟨o,q⟩,λ_ _ ⟨t,e⟩ k=>⟨t,e.at k⟩⟩
noncomputable def l_(o:Obj):Option Value:=match o.data with
 |.fields vs=>vs[2]?
 |_=>none
def DK{α:Type}:Sem α->Prop
 |.pure _=>True
 |.raise _=>True
 |.unsupported _=>True
 |.finish _=>True
 |.rule _ k=>DK (k ())
 |.at _ k=>DK (k ())
 |.load _ _ k=>∀o,DK (k o)
 |.update _ _ f k=>(∀o,(f o).dict=o.dict/\l_ (f o)=l_ o)/\DK (k ())
 |.alloc _ k=>∀a,DK (k a)
 |.stack k=>∀l,DK (k l)
 |_=>False
def Kd(h h':Heap):Prop:=∀(a:Nat) (o),h.objs[a]? = some o->∃o',h'.objs[a]? = some o'/\o'.dict=o.dict/\l_ o'=l_ o
theorem Kd.refl(h:Heap):Kd h h:=λa o e=>⟨o,e,rfl,rfl⟩
theorem Kd.trans(x:Kd h h1)(y:Kd h1 h2):Kd h h2:=λa o e=>by
 obtain⟨o1,e1,d1,f1⟩:=x a o e;obtain⟨o2,e2,d2,f2⟩:=y a o1 e1;exact⟨o2,e2,d2.trans d1,f2.trans f1⟩
theorem Kd.push(h:Heap)(o:Obj):Kd h (h.push o):=λa u e=>by
 obtain⟨objs,l⟩:=h;refine⟨u,?_,rfl,rfl⟩;show(objs.push o)[a]? = some u;have lt:=(Array.getElem?_eq_some_iff.mp e).1;rw[Array.getElem?_push_lt lt];rw[Array.getElem?_eq_getElem lt] at e;exact e
theorem Kd.update(h:Heap)(b:Addr)(hf:∀o,(f o).dict=o.dict/\l_ (f o)=l_ o):Kd h (h.update b f):=λa u e=>by
 obtain⟨objs,l⟩:=h;show ∃o',(objs.modify b f)[a]? = some o'/\_;have e:=e;rw[Array.getElem?_modify,e]
 split
 .exact⟨f u,rfl,hf u⟩
 .exact⟨u,rfl,rfl,rfl⟩
theorem Kd.at(k:Kd h h')(e:h.get? a=some o)(e':h'.get? a=some o'):o'.dict=o.dict/\l_ o'=l_ o:=by
 have raw:∀{h:Heap} {o},h.get? a=some o->h.objs[a]? = some o:=λ{h o} e=>by
  unfold Heap.get? at e
  split at e
  .cases e
  .exact e
 obtain⟨u,q,d⟩:=k a o (raw e);rw[raw e'] at q;cases q;exact d
theorem Yh:∀(t) {Q:α->Pos->Shared->Prop} {E} {p} {s},DK t->Kd h0 s.heap->Sem.wp M Γ t Q E p s->Sem.wp M Γ t (λa p' s'=>Q a p' s'/\Kd h0 s'.heap) (λe p' s'=>E e p' s'/\Kd h0 s'.heap) p s:=by
 intro t
 induction t with
 |pure a=>exists 49;exact⟨h,k⟩
 |raise e=>exists 49;exact⟨h,k⟩
 |unsupported w=>exists 49;exact h
 |finish e=>exists 49;exact h
 |rule tag f ih=>exists 49;exact ih () d k h
 | «at» pos f ih=>exists 49;exact ih () d k h
 |load a part f ih=>exists 49;obtain⟨o,e,h⟩:=h;exact⟨o,e,ih o (d o) k h⟩
 |update a part f g ih=>exists 49;exact⟨h.1,ih () d.2 (k.trans (Kd.update _ _ d.1)) h.2⟩
 |alloc o f ih=>exists 49;exact ih _ (d _) (k.trans (Kd.push _ _)) h
 |stack f ih=>exists 49;exact ih _ (d _) k h
 |loadIfAlive=>exists 50;exact d.elim
 |point=>exists 50;exact d.elim
 |register=>exists 50;exact d.elim
 |fresh=>exists 50;exact d.elim
 |ask=>exists 50;exact d.elim
 |choose=>exists 50;exact d.elim
 |os=>exists 50;exact d.elim
 |call=>exists 50;exact d.elim
 |handled=>exists 50;exact d.elim
 |newGen=>exists 50;exact d.elim
 |genState=>exists 50;exact d.elim
 |resume=>exists 50;exact d.elim
 |yield=>exists 50;exact d.elim
 |fork=>exists 50;exact d.elim
 |thread=>exists 50;exact d.elim
 |await=>exists 50;exact d.elim
theorem uM(d:DK t)(h:wpAny M A t Q E s):wpAny M A t (λa s'=>Q a s'/\Kd s.heap s'.heap) (λe s'=>E e s'/\Kd s.heap s'.heap) s:=
 λΓ p Yb=>Yh t d (Kd.refl _) (h Γ p Yb)
theorem DK.bind:∀{m},DK m->(∀a,DK (f a))->DK (m >>= f):=by
 intro m
 induction m with
 |pure a=>intro d h;exact h a
 |raise e=>intro d h;exact d
 |unsupported w=>intro d h;exact d
 |finish e=>intro d h;exact d
 |rule tag g ih=>intro d h;exact ih () d h
 | «at» pos g ih=>intro d h;exact ih () d h
 |load a part g ih=>intro d h o;exact ih o (d o) h
 |update a part f g ih=>intro d h;exact⟨d.1,ih () d.2 h⟩
 |alloc o g ih=>intro d h a;exact ih a (d a) h
 |stack g ih=>intro d h l;exact ih l (d l) h
 |loadIfAlive=>intro d;exact d.elim
 |point=>intro d;exact d.elim
 |register=>intro d;exact d.elim
 |fresh=>intro d;exact d.elim
 |ask=>intro d;exact d.elim
 |choose=>intro d;exact d.elim
 |os=>intro d;exact d.elim
 |call=>intro d;exact d.elim
 |handled=>intro d;exact d.elim
 |newGen=>intro d;exact d.elim
 |genState=>intro d;exact d.elim
 |resume=>intro d;exact d.elim
 |yield=>intro d;exact d.elim
 |fork=>intro d;exact d.elim
 |thread=>intro d;exact d.elim
 |await=>intro d;exact d.elim
theorem DN(a:Addr):DK (load a):=λ_=>trivial
theorem T5(v:Value):DK (fieldsOf v):=by
 unfold fieldsOf
 split
 .refine(DN _).bind λo=>?_
  split<;>trivial
 .trivial
theorem Bf(v:Value)(i:Nat):DK (field v i):=by
 unfold field;refine(T5 v).bind λo=>?_
 split<;>trivial
theorem Hu(v:Value)(i:Nat)(x:Value)(hi:i≠2):DK (setField v i x):=by
 unfold setField
 split
 .unfold updateField;refine(DN _).bind λo=>?_
  split
  .split
   .refine⟨λo=>?_,trivial⟩;obtain⟨c,d,dt,sl⟩:=o;cases dt with
    |fields vs=>exact⟨rfl,by show(vs.setIfInBounds i x)[2]? = vs[2]?;rw[Array.getElem?_setIfInBounds_ne hi]⟩
    |_=>exact⟨rfl,rfl⟩
   .trivial
  .trivial
 .trivial
theorem ED(e:Value)(f:Option Addr):DK (setFlight e f):=by
 unfold setFlight;refine(Bf e 1).bind λtb=>?_
 split
 .exact Hu _ _ _ (by decide)
 .trivial
theorem ZD(env:Env)(outer:List Env):DK (behindIsImport env outer):=by
 unfold behindIsImport
 split
 .trivial
 .split
  .trivial
  .exact(Bf _ _).bind λ_=>trivial
theorem WT:DK underTheClaimsCaller:=λ_=>trivial
theorem Z8(env:Env)(i:Bool)(l:List Env):DK (keptBack env i l):=by
 unfold keptBack
 split
 .split
  .trivial
  .exact WT.bind λ_=>trivial
 .trivial
theorem Ri:∀l:List Env,DK (readyFrames l)
 |[]=>trivial
 |env::outer=>by
  unfold readyFrames
  split
  .refine(DN _).bind λo=>?_
   split
   .trivial
   .refine(ZD _ _).bind λ_=>(Z8 _ _ _).bind λ_=>?_
    exact⟨λ_=>⟨rfl,rfl⟩,Ri outer⟩
  .trivial
theorem agk(env:Env):DK (PySem.frameOf env):=by
 unfold PySem.frameOf;refine DK.bind (λ_=>trivial) λl=>?_
 refine DK.bind ?_ λr=>?_
 .unfold frameObject
  split
  .trivial
  .exact(Ri _).bind λ_=>trivial
 .split<;>trivial
theorem abx(f:Addr)(b:Bool):DK (entryPlaceOf f b):=by
 unfold entryPlaceOf;refine DK.bind (λ_=>trivial) λl=>?_
 split<;>trivial
theorem Xj(a b c d e:Value)(pl:List Value):DK (EntryCells.newEntry a b c d e pl):=by
 unfold EntryCells.newEntry newFields newObj;dsimp only
 split<;>split<;>first|trivial|exact λ_=>trivial
theorem QJ(e:Value)(env:Env):DK (noteFrame e env):=by
 unfold noteFrame
 split
 .refine(Bf e 1).bind λhead=>?_
  have rest:∀f:Addr,DK (do setField e 1 (<- EntryCells.newEntry head (<- PySem.frameOf env) .none (rawInt f) .none (<- entryPlaceOf f (head != .none)))):=λf=>(agk env).bind λ_=>(abx _ _).bind λ_=>(Xj _ _ _ _ _ _).bind λ_=>Hu _ _ _ (by decide)
  split
  .refine(Bf head 3).bind λx=>?_
   split
   .trivial
   .exact(Hu _ _ _ (by decide)).bind λ_=>rest _
  .exact rest _
 .trivial
theorem JZ(env:Env)(e:Value):DK (leaving env e):=(QJ e env).bind λ_=>ED e none
theorem cM.tracked(x:cM P w H h)(k:∀b u o,H b=some o->h.get? b=some u->h'.get? b=some u):cM P w H h':=λa o e=>
 (x a o e).gx (λb u hb q=>hb.elim (λz=>k b u o (by rw[z];exact e) q) λz=>k b u _ z q) (λ_ z=>z) λ_ _ z=>z
theorem cM.alive(x:cM P w H h)(e:H a=some o):∃u,h.get? a=some u:=by
 have q:=x a o e;cases o with
 |lst xs=>obtain⟨_,_,_,_,e⟩:=q;exact⟨_,e⟩
 |tup xs=>obtain⟨_,_,_,ob,e,_⟩:=q;exact⟨_,e⟩
 |dK ak=>obtain⟨_,_,_,_,ob,_,_,e,_⟩:=q;exact⟨_,e⟩
 |dT ak=>obtain⟨_,_,_,_,ob,_,_,e,_⟩:=q;exact⟨_,e⟩
 |set S n=>obtain⟨ob,_,_,_,e,_⟩:=q;exact⟨_,e⟩
 |ins C dx fs=>obtain⟨_,_,_,e,_⟩:=q;exact⟨_,e⟩
 |own y=>exact q
 |xd fs=>obtain⟨_,⟨_,_,_,e,_⟩,_⟩:=q;exact⟨_,e⟩
 |b_ lo hi=>obtain⟨_,_,_,e⟩:=q;exact⟨_,e⟩
 |eU ob u=>exact⟨_,q.1⟩
 |qd ps=>exact⟨_,(show h.get? a=some _ from q)⟩
 |iw _ _=>obtain⟨_,e,_⟩:=q;exact⟨_,e⟩
 |jb _=>obtain⟨_,_,_,_,e,g,_⟩:=q;cases e;exact⟨_,g⟩
 |met f y=>exact⟨_,(show h.get? a=some _ from q)⟩
 |ext φ=>exact q.2.1
def afT(h:Heap)(H:Hp)(nw:Addr->Prop)(e:Addr):Option Addr->Prop
 |none=>True
 |some n=>∃oe dx t,h.get? e=some oe/\oe.dict=some dx/\h.Ns1 dx (FO n t)/\H dx=none/\nw dx
def kQ(h:Heap)(H:Hp)(nw:Addr->Prop)(e:Addr)(aQ:Option Addr):Prop:=(∃oe,h.get? e=some oe/\l_ oe=some .none)/\afT h H nw e aQ
theorem kQ.keep(x:kQ h H nw e aQ)(kd:Kd h h')(he:∃o,h'.get? e=some o)(st:∀b o,h.get? b=some o->(∀vs,o.data≠.fields vs)->∃sl,h'.get? b=some { o with slots:=sl })(hn:∀a,nw a->GS a):kQ h' H GS e aQ:=by
 obtain⟨⟨o0,g1,g2⟩,x⟩:=x;obtain⟨wu,he⟩:=he;refine⟨⟨wu,he,(kd.at g1 he).2.trans g2⟩,?_⟩;cases aQ with
 |none=>trivial
 |some n=>
  obtain⟨oe,dx,t,h1,h2,⟨o,es,ep,q1,q2,q3⟩,h4,h5⟩:=x;obtain⟨sl,q4⟩:=st dx o q1 λvs z=>by rw[q2] at z;cases z
  exact⟨wu,dx,t,he,(kd.at h1 he).1.trans h2,⟨_,es,ep,q4,q2,q3⟩,h4,hn dx h5⟩
theorem kQ.imp(x:kQ h H nw e aQ)(hn:∀a,nw a->GS a):kQ h H GS e aQ:=by
 obtain⟨g,x⟩:=x;refine⟨g,?_⟩;cases aQ with
 |none=>trivial
 |some n=>
  obtain⟨oe,dx,t,h1,h2,h3,h4,h5⟩:=x;exact⟨oe,dx,t,h1,h2,h3,h4,hn dx h5⟩
structure NZ(h:Heap)(H:Hp)(h0:Heap)(e:Addr)(cls:Value)(aQ:Option Addr):Prop where
 py:kQ h H (λa=>h0.get? a=none) e aQ
 nw:h0.get? e=none
 fr:H e=none
 ob:∃oe vs a0 T oT ts,h.get? e=some oe/\oe.cls=cls/\vs[0]? = some a0/\oe.data=.fields vs/\vs[1]? = some (.ref T)/\T≠e/\h0.get? T=none/\H T=none/\h.get? T=some oT/\oT.data=.fields ts/\ts[3]? = some .none
structure Qy(h:Heap)(H:Hp)(h0:Heap)(e:Addr)(cls:Value)(aQ:Option Addr):Prop where
 py:kQ h H (λa=>h0.get? a=none) e aQ
 nw:h0.get? e=none
 fr:H e=none
 ob:∃oe vs a0,h.get? e=some oe/\oe.cls=cls/\vs[0]? = some a0/\oe.data=.fields vs/\vs[1]? = some .none
structure SD(h:Heap)(H:Hp)(h0:Heap)(L e:Addr)(cls:Value)(aQ:Option Addr):Prop where
 py:kQ h H (λa=>h0.get? a=none) e aQ
 nw:h0.get? e=none
 fr:H e=none
 ob:∃oe vs a0 T oT ts,h.get? e=some oe/\oe.cls=cls/\vs[0]? = some a0/\oe.data=.fields vs/\vs[1]? = some (.ref T)/\T≠e/\h0.get? T=none/\H T=none/\h.get? T=some oT/\oT.data=.fields ts/\ts[3]? = some (rawInt L)
def Oi(h:Heap)(H:Hp)(h0:Heap)(L e:Addr)(cls:Value)(aQ:Option Addr):Prop:=Qy h H h0 e cls aQ\/NZ h H h0 e cls aQ\/SD h H h0 L e cls aQ
def iz(P:Program)(w:World):qf:=λouter H s E e s'=>∃a H' cls aQ,e=.ref a/\s'.os=s.os/\AllBare s'.gens/\Un (aY outer) [] H H' s.heap s'.heap/\cM P w H' s'.heap/\NZ s'.heap H' s.heap a cls aQ/\E cls aQ H'
theorem Un.dead(u:Un fs [] H H' h h')(n:h'.get? a=none):h.get? a=none:=by
 cases q:h.get? a with
 |none=>rfl
 |some o=>
  obtain⟨o',e⟩:=u.there a o q (by simp);rw[n] at e;cases e
theorem Qv{K:PySem.W.Frag}
  (I:Inv (fU (iz P w) P w K mg base N qual scope f cd A outer s0 H0 E) af σ H s) (fl:Oi s.heap H s0.heap (fU (iz P w) P w K mg base N qual scope f cd A outer s0 H0 E).env.locals e cls aQ) (hE:E cls aQ H) :
  (fU (iz P w) P w K mg base N qual scope f cd A outer s0 H0 E).xe (.ref e) s:=by
 generalize hX:fU (iz P w) P w K mg base N qual scope f cd A outer s0 H0 E=X at I fl ⊢;have YD:X.xe=λe s'=>wpAny (model P w) X.A (leaving X.env e) (λ_ gY=>iz P w outer H0 s0 E e gY) (λe' gY=>iz P w outer H0 s0 E e' gY) s':=by rw[<- hX];rfl
 have cX:X.stack=X.env::outer:=by rw[<- hX];rfl
 have oN:X.A.frames=some (X.env::outer):=by rw[<- cX];exact I.ok.frames
 have hf:X.env.frame=some X.env.locals:=by rw[<- hX];rfl
 have hl:=I.stack;rw[cX] at hl;have u:Un (aY outer) [] H0 H s0.heap s.heap:=by
  have:=I.base;rw[<- hX] at this;exact this
 have hos:s.os=s0.os:=by
  have:=I.os;rw[<- hX] at this;exact this
 have aE:cM P w H s.heap:=by
  have:=I.aE;rw[<- hX] at this;exact this
 have free:=I.vR;rw[cX] at free;have lf:∀b,b∈aY (X.env::outer)->(∃o,s.heap.get? b=some o/\∀vs,o.data≠.fields vs):=λb m=>(hl.mem m).2
 have Bx:=fl.elim (·.nw) λz=>z.elim (·.nw) (·.nw)
 have Cz:=fl.elim (·.fr) λz=>z.elim (·.fr) (·.fr)
 have fpy:=fl.elim (·.py) λz=>z.elim (·.py) (·.py)
 rw[YD];dsimp only;have fin:∀(xs) (h'),(∀x∈xs,s0.heap.get? x=none/\H x=none)->(∃a0,Heap.LeftW (PySem.W.hideAll s.heap (aY (X.env::outer)++xs)) (X.env::outer) e cls a0 s.heap h')->e∈xs->Kd s.heap h'->iz P w outer H0 s0 E (.ref e) { s with heap:=h' }:=λxs h' jD hL Kh kd=>by
  obtain⟨a0,k1,k2,k3,k4⟩:=hL;have gx:∀b o,s.heap.get? b=some o->b∉aY (X.env::outer)->b∉xs->h'.get? b=some o:=λb o q n1 n2=>k1 b o (PySem.W.hideAll_get _ q λm=>(abE.mp m).elim n1 n2)
  have nx:∀b o,s0.heap.get? b=some o->b∉xs:=λb o q m=>by rw[(jD b m).1] at q;cases q
  have afu:∀b o,s0.heap.get? b=some o->b≠X.env.locals:=λb o q z=>by
   have h1:=I.ok.above;have h2:X.cG=s0:=by rw[<- hX];rfl
   rw[h2,<- z] at h1;exact absurd (abM q) (Nat.not_lt.mpr h1)
  have Ss:∀b o,s0.heap.get? b=some o->b∉aY outer->b∉aY (X.env::outer):=λb o q n m=>by
   have m:b∈(X.env::outer).filterMap (·.frame):=m;rw[aen,hf] at m;exact(abb.mp m).elim (afu b o q) n
  have sub:∀b,b∈aY outer->b∈aY (X.env::outer):=λb m=>by
   show b∈(X.env::outer).filterMap (·.frame);rw[aen,hf];exact aaa _ m
  refine⟨e,H,cls,aQ,rfl,hos,I.bare,⟨λb o q n nf _=>?_,λb o q n m _=>?_,u.free,λb o q _=>?_,u.jl,u.jo,u.ko⟩,aE.tracked λb v o hb q=>?_,⟨fpy.keep kd (by obtain⟨oe,vs,T,oT,ts,r1,_⟩:=k3;exact⟨oe,r1⟩) k4 λ_ z=>z,Bx,Cz,?_⟩,hE⟩
  .exact gx b o (u.keep b o q n nf (by simp)) (Ss b o q nf) (nx b o q)
  .obtain⟨sl,q2⟩:=u.slot b o q n m (by simp);obtain⟨o2,q3,q4⟩:=lf b (sub b m);rw[q2] at q3;cases q3;obtain⟨qB,q5⟩:=k4 b _ q2 q4;exact⟨qB,q5⟩
  .obtain⟨o',q2⟩:=u.there b o q (by simp)
   by_cases m:b∈aY (X.env::outer)
   .obtain⟨o2,q3,q4⟩:=lf b m;rw[q2] at q3;cases q3;obtain⟨qB,q5⟩:=k4 b _ q2 q4;exact⟨_,q5⟩
   .exact⟨o',gx b o' q2 m (nx b o q)⟩
  .refine gx b v q (λm=>?_) λm=>?_
   .rw[free b m] at hb;cases hb
   .rw[(jD b m).2] at hb;cases hb
  .obtain⟨oe,vs,T,oT,ts,r1,⟨r2,r0⟩,r3,r4,r5,r6,r7,r8,r9⟩:=k3;refine⟨oe,vs,a0,T,oT,ts,r1,r2,r0,r3,r4,r6,?_,?_,r7,r8,r9⟩
   .cases q:s0.heap.get? T with
    |none=>rfl
    |some o=>
     exfalso
     obtain⟨o',q2⟩:=u.there T o q (by simp)
     by_cases m:T∈aY (X.env::outer)
     .obtain⟨o2,q3,q4⟩:=(k2.mem m).2;rw[r7] at q3;cases q3;exact q4 ts r8
     .have:=PySem.W.hideAll_get (aY (X.env::outer)++xs) q2 λz=>(abE.mp z).elim m (nx T o q)
      rw[r5] at this;cases this
   .cases q:H T with
    |none=>rfl
    |some o=>
     exfalso
     obtain⟨v,q2⟩:=aE.alive q;have:=PySem.W.hideAll_get (aY (X.env::outer)++xs) q2 λz=>(abE.mp z).elim (λm=>by rw[free T m] at q;cases q) λm=>by rw[(jD T m).2] at q;cases q
     rw[r5] at this;cases this
 have hide:∀xs:List Addr,s.heap.FunFrames (PySem.W.hideAll s.heap (aY (X.env::outer)++xs)) (X.env::outer):=λxs=>PySem.W.funFrames_hide hl λx_ he a ha=>abq _ (agr.mpr ⟨x_,he,ha⟩)
 rcases fl with fl|fl|fl
 .obtain⟨oe,vs,a0,h1,h2,h0,h3,h5⟩:=fl.ob;refine adU (uM (JZ _ _) (wpAny_leaving_firstW (Q:=λ_ gY=>∃h',gY={ s with heap:=h' }/\Heap.LeftW (PySem.W.hideAll s.heap (aY (X.env::outer)++[e])) (X.env::outer) e oe.cls a0 s.heap h') (E:=λ_ _=>False) oN (hide _) hf h1 (λb o q=>PySem.W.of_hideAll _ q) (PySem.W.hideAll_none _ (by simp)) h3 h5 h0 λh' hL=>⟨h',rfl,hL⟩)) (λ_ gY ⟨⟨h',eh,hL⟩,kd⟩=>?_) λ_ _ z=>z.1.elim
  subst eh;rw[h2] at hL;exact fin [e] h' (λx m=>by rw[aa3.mp m];exact⟨Bx,Cz⟩) ⟨a0,hL⟩ (by simp) kd
 .exists 72;refine adU (uM (JZ _ _) (wpAny_leaving_nextW (Q:=λ_ gY=>∃h',gY={ s with heap:=h' }/\Heap.LeftW (PySem.W.hideAll s.heap (aY (X.env::outer)++[e,T])) (X.env::outer) e cls a0 s.heap h') (E:=λ_ _=>False) oN (hide _) hf ⟨oe,vs,T,oT,ts,h1,⟨h2,h0⟩,h3,t1,PySem.W.hideAll_none _ (by simp),t2,t5,t6,t7⟩ (λb o q=>PySem.W.of_hideAll _ q) (PySem.W.hideAll_none _ (by simp)) λh' hL=>⟨h',rfl,hL⟩)) (λ_ gY ⟨⟨h',eh,hL⟩,kd⟩=>?_) λ_ _ z=>z.1.elim
  subst eh;refine fin [e,T] h' (λx m=>?_) ⟨a0,hL⟩ (by simp) kd;rcases abb.mp m with z|z
  .rw[z];exact⟨Bx,Cz⟩
  .rw[aa3.mp z];exact⟨t3,t4⟩
 .exists 72;have aq:Heap.HeldW (PySem.W.hideAll s.heap (aY (X.env::outer)++[e,T])) (X.env::outer) e cls a0 X.env.locals s.heap:=⟨λb o q=>PySem.W.of_hideAll _ q,PySem.W.hideAll_none _ (by simp),hide _,oe,vs,T,oT,ts,h1,⟨h2,h0⟩,h3,t1,PySem.W.hideAll_none _ (by simp),t2,t5,t6,t7⟩
  have key:wpAny (model P w) X.A (leaving X.env (.ref e)) (λ_ gY=>∃h',gY={ s with heap:=h' }/\Heap.LeftW (PySem.W.hideAll s.heap (aY (X.env::outer)++[e,T])) (X.env::outer) e cls a0 s.heap h') (λ_ _=>False) s:=by
   unfold leaving;refine aa7 (wpAny_noteFrame_againW hf aq.2.2.2 ?_);exact wpAny_landsW aq λh' ⟨k1,k2,k3,k4⟩ up=>⟨h',rfl,k1,k3,k4,up⟩
  refine adU (uM (JZ _ _) key) (λ_ gY ⟨⟨h',eh,hL⟩,kd⟩=>?_) λ_ _ z=>z.1.elim
  subst eh;refine fin [e,T] h' (λx m=>?_) ⟨a0,hL⟩ (by simp) kd;rcases abb.mp m with z|z
  .rw[z];exact⟨Bx,Cz⟩
  .rw[aa3.mp z];exact⟨t3,t4⟩
abbrev XS:=Value->Option Addr->St->Hp->Prop
def JN(X:Cx)(E:XS):Prop:=∀(af) (σ) (H) (s) (e) (cls) (aQ),Inv X af σ H s->Qy s.heap H X.cG.heap e cls aQ->E cls aQ σ H->X.xe (.ref e) s
theorem YK{K:PySem.W.Frag}:
  JN (fU (iz P w) P w K mg base N qual scope f cd A outer s0 H0 E) (λcls aQ _ H=>E cls aQ H):=λaf σ H s e cls aQ I fl hE=>Qv I (.inl fl) hE
structure Cc(K:PySem.W.Frag)(C:Addr):Prop where
 ex:∃B newId P0 ud bm N nm qn bs hdct sn sub ab col dd k0 k1 k2 k3 k5,ExcBaseFacts B newId P0 ud/\K.lookup C=some (excClassObj nm qn C N bs bm hdct sn sub ab col dd k0 k1 k2 k3 k5 newId)/\
  PySem.W.nsOkIn K N=true/\PySem.W.nsIn K N "__init__"=some none/\PySem.W.tailIn K ud bm=true
def Tu(C:Addr)(E:XS)(t:TA):TS:=λ_ σ H=>t σ H λvs H1=>vs.length<=sizeLine/\E (.ref C) none σ H1
theorem S1(hc:X.calm=true)(hx:X.ex=[])(th:JN X E)(cl:Cc X.K C)(hg:Gl X x)(hm:X.mg x=some (.ref C))(ha:PA X (e::es) t)(f7:(x==("__debug__":Str))=false:=by decide)
  (he:starEach (e::es) X.env=(false,eval e X.env)::starEach es X.env:=by rfl) (hpl:(backTo fP (starEach es X.env)).any (·.1)=false:=by rfl) :
  PS X (.Raise (some (.Call (.Name x np) (e::es) [] fP)) none pos) (Tu C E t):=by
 exists 48;obtain⟨B,newId,P0,ud,bm,N,nm,qn,bs,hdct,sn,sub,ab,col,dd,k0,k1,k2,k3,k5,FB,hl,n1,n2,n3⟩:=cl.ex;have hh:=I.ok.hd hc;have KI:=I.ok.mod.s_;have hC:=KI _ _ hl;have hN:=Heap.Ns.of_isNs (PySem.W.isNs_of_in KI n1);have Aa:=PySem.W.nsMap_none_of_in KI n1 n2;have T:=PySem.W.tail_of_in KI n3;refine wpAny_Raise_call_subT (nm:=nm) (q:=qn) (N:=N) (bs:=bs) (hdct:=hdct) (sn:=sn) (sub:=sub) (ab:=ab) (col:=col) (dd:=dd) (k0:=k0) (k1:=k1) (k2:=k2) (k3:=k3) (k5:=k5)
  FB (T.hasType FB.hasBase) hh (by rw[he];show(false||(backTo fP (starEach es X.env)).any (·.1))=false;rw[hpl];rfl) Aa (tK I hg hm ⟨rfl,?_⟩ f7)
 have key:=ha fP af s σ H _ I h;rw[he] at key ⊢;refine Calls.evalArgs_plain (adU key (λus s1 hq=>?_) λ_ _ y=>y);obtain⟨vs,H1,I1,r,hz,q1⟩:=hq;refine⟨rfl,by rw[<- r.length];exact hz,I1.bk _ _ hC,hN.keeps I1.bk,T.keeps I1.bk,λh' e' jU=>?_⟩;have I2:Inv X af σ H1 { s1 with heap:=h' }:=I1.kept jU.keeps;refine th af σ H1 _ e' (.ref C) none I2 ⟨⟨?_,trivial⟩,?_,?_,?_⟩ q1
 .obtain⟨tp,z,_,_⟩:=jU.there;exact⟨_,z,rfl⟩
 .have u:=I1.base;rw[hx] at u;exact u.dead jU.new
 .cases qq:H1 e' with
  |none=>rfl
  |some o=>
   obtain⟨v,z⟩:=I1.aE.alive qq;rw[jU.new] at z;cases z
 .obtain⟨tp,z,_,_⟩:=jU.there;exact⟨_,_,_,z,rfl,rfl,rfl,rfl⟩
theorem Inv.slots(I:Inv X af σ H s)(xs:List Addr)(gx:∀b o,s.heap.get? b=some o->b∉aY X.stack->b∉xs->h'.get? b=some o)(slot:∀b o,s.heap.get? b=some o->b∈aY X.stack->∃sl,h'.get? b=some { o with slots:=sl })
  (jD:∀x∈xs,X.cG.heap.get? x=none/\H x=none/\x≠X.env.locals/\(∀y c,X.env.cells.lookup y=some c->c≠x)/\∀p∈X.pn++af,p.1≠x):Inv X af σ H { s with heap:=h' }:=by
 have any:∀b o,s.heap.get? b=some o->b∉xs->∃sl,h'.get? b=some { o with slots:=sl }:=λb o q n=>by
  by_cases m:b∈aY X.stack
  .exact slot b o q m
  .exact⟨o.slots,gx b o q m n⟩
 have out:∀b,b≠X.env.locals->b∉X.fs->b∉aY X.stack:=λb n1 n2 m=>(abb.mp (I.Bj b m)).elim n1 n2
 have B7:∀b o,X.cG.heap.get? b=some o->b≠X.env.locals:=λb o e=>acI (acU (abM e) I.ok.above)
 have IT:∀b o,X.cG.heap.get? b=some o->b∉xs:=λb o e m=>by rw[(jD b m).1] at e;cases e
 have cellK:∀x c,X.env.cells.lookup x=some c->∀v,s.heap.IsCell c v->h'.IsCell c v:=λx c e v ⟨o,ho,hd⟩=>by
  obtain⟨sl,q⟩:=any c o ho λz=>(jD c z).2.2.2.1 x c e rfl
  exact⟨_,q,hd⟩
 refine⟨I.ok,I.os,I.bare,⟨λb o e n hb hx=>?_,λb o e n hb hx=>?_,I.base.free,λb o e hx=>?_,I.base.jl,I.base.jo,I.base.ko⟩,?_,λx c e=>?_,I.free,I.gS,λp hp=>?_,I.aE.tracked λb v o hb q=>?_,I.len,I.hq⟩
 .exact gx b o (I.base.keep b o e n hb hx) (out b (B7 b o e) hb) (IT b o e)
 .exists 75;obtain⟨qB,e2⟩:=any b _ e1 (IT b o e);exact⟨qB,e2⟩
 .exists 67;obtain⟨sl,e2⟩:=any b o' e1 (IT b o e);exact⟨_,e2⟩
 .obtain⟨m,⟨o,es,ep,ho,r⟩,hl⟩:=I.loc;obtain⟨sl,hL⟩:=any _ o ho λz=>(jD _ z).2.2.1 rfl
  refine⟨m,⟨_,es,ep,hL,r⟩,λi x v e1 e2 e3=>?_⟩;obtain⟨u,rr,l⟩:=hl i x v e1 e2 e3;refine⟨u,rr,?_⟩;rcases l with l|⟨k,c,e,z⟩
  .exact .inl l
  .exact .inr ⟨k,c,e,cellK x c e _ z⟩
 .obtain⟨v,z⟩:=I.cell x c e;exact⟨v,cellK x c e v z⟩
 .exists 87;exact⟨gx p.1 p.2 e (out p.1 ne nf) λz=>(jD p.1 z).2.2.2.2 p hp rfl,n,ne,nf,d⟩
 .refine gx b v q (λm=>?_) λm=>?_
  .rw[I.vR b m] at hb;cases hb
  .rw[(jD b m).2.1] at hb;cases hb
theorem Inv.apart(I:Inv X af σ H s)(hx:X.ex=[])(n:s.heap.get? x=none):X.cG.heap.get? x=none/\x≠X.env.locals/\(∀y c,X.env.cells.lookup y=some c->c≠x)/\∀p∈X.pn++af,p.1≠x:=by
 refine⟨?_,λz=>?_,λy c e z=>?_,λp hp z=>?_⟩
 .have u:=I.base;rw[hx] at u;exact u.dead n
 .obtain⟨m,⟨o,_,_,ho,_⟩,_⟩:=I.loc;rw[<- z,n] at ho;cases ho
 .obtain⟨v,o,ho,_⟩:=I.cell y c e;rw[z,n] at ho;cases ho
 .have:=(I.pin p hp).1;rw[z,n] at this;cases this
noncomputable abbrev Apart(X:Cx)(af:List (Addr×Obj))(a:Addr):Prop:=X.cG.heap.get? a=none/\a≠X.env.locals/\(∀y c,X.env.cells.lookup y=some c->c≠a)/\∀p∈X.pn++af,p.1≠a
structure gk(X:Cx)(af:List (Addr×Obj))(σ:St)(H:Hp)(e:Addr)(cls:Value)(aQ:Option Addr)(s:Shared):Prop where
 py:kQ s.heap H (Apart X af) e aQ
 inv:Inv X af σ H s
 fr:H e=none
 ap:X.cG.heap.get? e=none/\e≠X.env.locals/\(∀y c,X.env.cells.lookup y=some c->c≠e)/\∀p∈X.pn++af,p.1≠e
 ob:∃oe vs a0 T oT ts,s.heap.get? e=some oe/\oe.cls=cls/\vs[0]? = some a0/\oe.data=.fields vs/\vs[1]? = some (.ref T)/\T≠e/\H T=none/\(X.cG.heap.get? T=none/\T≠X.env.locals/\(∀y c,X.env.cells.lookup y=some c->c≠T)/\∀p∈X.pn++af,p.1≠T)/\s.heap.get? T=some oT/\oT.data=.fields ts/\(ts[3]? = some .none\/ts[3]? = some (rawInt X.env.locals))
theorem landAt(I:Inv X af σ H s)(hx:X.ex=[])(fr:H e=none)(ap:X.cG.heap.get? e=none/\e≠X.env.locals/\(∀y c,X.env.cells.lookup y=some c->c≠e)/\∀p∈X.pn++af,p.1≠e)(Kh:e∈xs)
  (jD:∀x∈xs,H x=none/\X.cG.heap.get? x=none/\x≠X.env.locals/\(∀y c,X.env.cells.lookup y=some c->c≠x)/\∀p∈X.pn++af,p.1≠x)
  (k1:(PySem.W.hideAll s.heap (aY X.stack++xs)).StaysIn h') (k3:h'.FunFrames (PySem.W.hideAll s.heap (aY X.stack++xs)) X.stack) (tr:h'.TracedAtW (PySem.W.hideAll s.heap (aY X.stack++xs)) e cls a0 fl) (hfl:fl=.none\/fl=rawInt X.env.locals) (up:s.heap.UpToSlots h') (py:kQ s.heap H (Apart X af) e aQ) (kd:Kd s.heap h'):gk X af σ H e cls aQ { s with heap:=h' }:=by
 obtain⟨oe,vs,T,oT,ts,r1,⟨r2,r0⟩,r3,r4,r5,r6,r7,r8,r9⟩:=tr;have gx:∀b o,s.heap.get? b=some o->b∉aY X.stack->b∉xs->h'.get? b=some o:=λb o q n1 n2=>k1 b o (PySem.W.hideAll_get _ q λm=>(abE.mp m).elim n1 n2)
 have slot:∀b o,s.heap.get? b=some o->b∈aY X.stack->∃sl,h'.get? b=some { o with slots:=sl }:=λb o q m=>by
  obtain⟨_,o2,q3,q4⟩:=I.stack.mem m;rw[q] at q3;cases q3;exact up b o q q4
 have J:=I.slots xs gx slot λx m=>let⟨a,b,c⟩:=jD x m;⟨b,a,c⟩
 have tH:H T=none:=by
  cases q:H T with
  |none=>rfl
  |some o=>
   exfalso
   obtain⟨v,q2⟩:=I.aE.alive q;have:=PySem.W.hideAll_get (aY X.stack++xs) q2 λz=>(abE.mp z).elim (λm=>by rw[I.vR T m] at q;cases q) λm=>by rw[(jD T m).1] at q;cases q
   rw[r5] at this;cases this
 have tF:T∉aY X.stack:=λm=>by
  obtain⟨_,o2,q3,q4⟩:=k3.mem m;rw[r7] at q3;cases q3;exact q4 ts r8
 have tA:X.cG.heap.get? T=none/\T≠X.env.locals/\(∀y c,X.env.cells.lookup y=some c->c≠T)/\∀p∈X.pn++af,p.1≠T:=by
  by_cases m:T∈xs
  .exact(jD T m).2
  .have dead:s.heap.get? T=none:=by
    cases q:s.heap.get? T with
    |none=>rfl
    |some o=>
     have:=PySem.W.hideAll_get (aY X.stack++xs) q λz=>(abE.mp z).elim tF m
     rw[r5] at this;cases this
   refine⟨?_,λz=>?_,λy c e z=>?_,λp hp z=>?_⟩
   .cases q:X.cG.heap.get? T with
    |none=>rfl
    |some o=>
     exfalso
     obtain⟨o',q2⟩:=I.base.there T o q (by rw[hx];simp);rw[dead] at q2;cases q2
   .obtain⟨m,⟨o,_,_,ho,_⟩,_⟩:=I.loc;rw[<- z,dead] at ho;cases ho
   .obtain⟨v,o,ho,_⟩:=I.cell y c e;rw[z,dead] at ho;cases ho
   .have:=(I.pin p hp).1;rw[z,dead] at this;cases this
 exact⟨py.keep kd ⟨oe,r1⟩ up λ_ z=>z,J,fr,ap,oe,vs,a0,T,oT,ts,r1,r2,r0,r3,r4,r6,tH,tA,r7,r8,hfl.elim (λz=>.inl (z ▸ r9)) λz=>.inr (z ▸ r9)⟩
theorem land(I:Inv X af σ H s)(hx:X.ex=[])(fr:H e=none)(ap:Apart X af e)(Kh:e∈xs)(jD:∀x∈xs,H x=none/\Apart X af x)
  (fl:Heap.FlyingW (PySem.W.hideAll s.heap (aY X.stack++xs)) X.stack e cls a0 h') (up:s.heap.UpToSlots h') (py:kQ s.heap H (Apart X af) e aQ) (kd:Kd s.heap h'):gk X af σ H e cls aQ { s with heap:=h' }:=
 landAt I hx fr ap Kh jD fl.1 fl.2.2.1 fl.2.2.2 (.inl rfl) up py kd
theorem gk.agb{R:Shared->Prop}(L:gk X af σ H e cls aQ s)(hx:X.ex=[])(cX:X.stack=X.env::X.outer)(hf:X.env.frame=some X.env.locals)(k:∀s3,gk X af σ H e cls aQ s3->R s3):
  wpAny M X.A (noteFrame (.ref e) X.env) (λ_ s2=>wpAny M X.A (setFlight (.ref e) none) (λ_ s3=>R s3) E' s2) E' s:=by
 exists 76;have I:=L.inv;have oN:X.A.frames=some (X.env::X.outer):=by rw[<- cX];exact I.ok.frames
 have hF:=PySem.W.funFrames_hide (as:=aY X.stack++[e,T]) I.stack λx_ he a ha=>abq _ (agr.mpr ⟨x_,he,ha⟩)
 have fin:∀h4,Heap.HeldW (PySem.W.hideAll s.heap (aY X.stack++[e,T])) (X.env::X.outer) e cls a0 X.env.locals h4->s.heap.UpToSlots h4->Kd s.heap h4->wpAny M X.A (setFlight (.ref e) none) (λ_ s3=>R s3) E' { s with heap:=h4 }:=λh4 aq yZ Dl=>by
  refine adU (uM (ED _ _) (wpAny_landsW (Q:=λ_ s5=>∃h5,s5={ s with heap:=h5 }/\Heap.FlyingW (PySem.W.hideAll s.heap (aY X.stack++[e,T])) (X.env::X.outer) e cls a0 h5/\h4.UpToSlots h5) (E:=λ_ _=>False) aq λh5 Ao EC=>⟨h5,rfl,Ao,EC⟩)) (λ_ s5 ⟨⟨h5,e5,Ao,EC⟩,kd5⟩=>?_) λ_ _ z=>z.1.elim
  subst e5;refine k _ (show gk X af σ H e cls aQ { s with heap:=h5 } from land (a0:=a0) (xs:=[e,T]) I hx L.fr L.ap (by simp) (λx m=>?_) ?_ (yZ.trans EC) L.py (Dl.trans kd5))
  .rcases abb.mp m with z|z
   .rw[z];exact⟨L.fr,L.ap⟩
   .rw[aa3.mp z];exact⟨tH,tA⟩
  .rw[<- cX] at Ao;exact Ao
 rcases t7 with t7|t7
 .have F:Heap.FlyingW (PySem.W.hideAll s.heap (aY X.stack++[e,T])) (X.env::X.outer) e cls a0 s.heap:=by
   rw[<- cX];exists 52
  refine adU (uM (QJ _ _) (wpAny_looks_onW (Q:=λ_ s4=>∃h4,s4={ s with heap:=h4 }/\Heap.HeldW (PySem.W.hideAll s.heap (aY X.stack++[e,T])) (X.env::X.outer) e cls a0 X.env.locals h4/\s.heap.UpToSlots h4) (E:=λ_ _=>False) oN hf F λh4 aq yZ=>⟨h4,rfl,aq,yZ⟩)) (λ_ s4 ⟨⟨h4,e4,aq,yZ⟩,Dl⟩=>?_) λ_ _ z=>z.1.elim
  subst e4;exact fin h4 aq yZ Dl
 .have F:Heap.HeldW (PySem.W.hideAll s.heap (aY X.stack++[e,T])) (X.env::X.outer) e cls a0 X.env.locals s.heap:=by
   rw[<- cX];exists 52
  exact wpAny_noteFrame_againW hf F.2.2.2 (fin s.heap F (λb o hb _=>⟨o.slots,hb⟩) (Kd.refl _))
theorem gk.fly(L:gk X af σ H e cls aQ s):Oi s.heap H X.cG.heap X.env.locals e cls aQ:=by
 exists 76;rcases t7 with t7|t7
 .exact .inr (.inl ⟨L.py.imp λ_ z=>z.1,L.ap.1,L.fr,oe,vs,a0,T,oT,ts,h1,h2,h0,h3,t1,t2,tA.1,tH,t5,t6,t7⟩)
 .exact .inr (.inr ⟨L.py.imp λ_ z=>z.1,L.ap.1,L.fr,oe,vs,a0,T,oT,ts,h1,h2,h0,h3,t1,t2,tA.1,tH,t5,t6,t7⟩)
def rJ(X:Cx)(E:XS):Prop:=∀(af) (σ) (H) (s) (e) (cls) (aQ),gk X af σ H e cls aQ s->E cls aQ σ H->X.xe (.ref e) s
theorem SA{K:PySem.W.Frag}:
  rJ (fU (iz P w) P w K mg base N qual scope f cd A outer s0 H0 E) (λcls aQ _ H=>E cls aQ H):=λaf σ H s e cls aQ L hE=>Qv L.inv L.fly hE
theorem Wz{os:OsState}
  (hC:h.get? C=some (excClassObj nm q C N bs bm hdct sn sub ab col dd k0 k1 k2 k3 k5 newId)) (hD:h.get? D=some (excClassObj zF q' D N' wV p_ zH yj xw wM yM jW j0 j1 j2 j3 j5 x6)) (he:h.get? e=some oe) (wW:oe.cls=.ref C)
  (hb:p_.contains (.type "BaseException")=true) (hq:Q ((Value.ref C::bm).contains (.ref D)) ⟨h,g,d,t,os⟩):wpAny M A (excMatches (.ref e) (.ref D)) Q E ⟨h,g,d,t,os⟩:=by
 have Vf:(Value.ref D::p_).contains (.type "BaseException")=true:=by rw[List.contains_cons,hb,Bool.or_true]
 have f:=tc_notTuple;unfold excMatches
 repeat (first|(with_reducible refine wpAny_loadPart_at he ?_;rw[wW])|with_reducible refine wpAny_loadPart_at hD ?_|(with_reducible refine wpAny_isSubtype_exc hD ?_;rw[Vf])|(with_reducible refine wpAny_isSubtype_exc hC ?_)|wp_step)
 cases hz:(Value.ref C::bm).contains (.ref D)<;>(rw[hz] at hq;wp_walk;exact hq)
theorem gk.again(L:gk X af σ H e cls aQ s)(hx:X.ex=[])(k:∀s',gk X af σ H e cls aQ s'->Q () s'):wpAny M A' (setFlight (.ref e) none) Q E' s:=by
 exists 76;obtain⟨fl,t7⟩:∃fl,ts[3]? = some fl:=t7.elim (λz=>⟨_,z⟩) λz=>⟨_,z⟩
 have I:=L.inv;refine adU (uM (ED _ _) (wpAny_setFlight_noneW (Q:=λ_ s'=>∃h',s'={ s with heap:=h' }/\(PySem.W.hideAll s.heap (aY X.stack++[e,T])).StaysIn h'/\h'.FunFrames (PySem.W.hideAll s.heap (aY X.stack++[e,T])) X.stack/\h'.TracedW (PySem.W.hideAll s.heap (aY X.stack++[e,T])) e cls a0/\(∀b o,s.heap.get? b=some o->(∀vs,o.data≠.fields vs)->h'.get? b=some o)) (E:=λ_ _=>False) (λb o q=>PySem.W.of_hideAll _ q)
  (PySem.W.funFrames_hide I.stack λx_ he a ha=>abq _ (agr.mpr ⟨x_,he,ha⟩)) ⟨oe,vs,T,oT,ts,h1,⟨h2,h0⟩,h3,t1,PySem.W.hideAll_none _ (by simp),t2,t5,t6,t7⟩ λh' k1 k2 k3 k4=>⟨h',rfl,k1,k2,k3,k4⟩)) (λ_ s' ⟨⟨h',eh,k1,k2,k3,k4⟩,kd⟩=>?_) λ_ _ z=>z.1.elim
 subst eh;refine k _ (land I hx L.fr L.ap (by simp) (λx m=>?_) ⟨k1,PySem.W.hideAll_none _ (by simp),k2,k3⟩ (λb o q n=>⟨o.slots,k4 b o q n⟩) L.py kd);rcases abb.mp m with z|z
 .rw[z];exact⟨L.fr,L.ap⟩
 .rw[aa3.mp z];exact⟨tH,tA⟩
def Cd(X:Cx)(af:List (Addr×Obj))(σ:St)(E:XK)(e:Value)(s':Shared):Prop:=∃a cls aQ H',e=.ref a/\gk X af σ H' a cls aQ s'/\E cls aQ H'
abbrev TX:=St->Hp->VK->XK->Prop
def PX(X:Cx)(e:Expr)(t:TX):Prop:=
 ∀(af) (s) (σ) (H) (Q) (E),Inv X af σ H s->t σ H Q E->Y1 X X.A (eval e X.env) (EP X af σ Q) (Cd X af σ E) s
theorem T7(I:Inv X af σ H s)(hx:X.ex=[])(h:iz X.prog X.w X.stack H s E e s'):Cd X af σ E e s':=by
 obtain⟨a,H',cls,aQ,rfl,os,bare,un,aE,fl,hE⟩:=h;have I':=I.Ll os un aE bare λb z=>absurd z (by simp)
 exists 72;exact⟨a,cls,aQ,H',rfl,⟨fl.py.imp λ_ z=>I.apart hx z,I',fl.fr,I.apart hx fl.nw,oe,vs,a0,T,oT,ts,h1,h2,h0,h3,t1,t2,t4,I.apart hx t3,t5,t6,.inl t7⟩,hE⟩
theorem afV(F:bX X.prog X.w X.K X.mg X.base (iz X.prog X.w) k f fd ps sp cm)(hr:bu k X.A cm)(hb:Binds X.K fd ps ds)(hd:aU eK ds)(hx:X.ex=[])
  (I:Inv X af σ H s) (r:aU vs us) (h:sp (vs++eK) H Q E):Y1 X X.A (call (.ref f) us) (EP X af σ Q) (Cd X af σ E) s:=by
 have r2:=r.append hd;have hl:(us++ds).length=ps.length:=by rw[<- r2.length];exact F.len _ _ _ _ h
 exists 55;cases r with
 |error e=>exact T7 I hx hq
 |ok fl=>
  cases fl with
  |ret u=>exact I.after hq
  |next=>exact False.elim hq
  |brk=>exact False.elim hq
  |cont=>exact False.elim hq
def acH(C:Addr)(m:Str)(sp:Sp)(eK:List V)(ta:TE)(t:TA):TX:=λσ H Q E=>ta σ H λx H1=>∃a dx fs,x=.ref a/\H1 a=some (.ins C dx fs)/\fs.lookup m=none/\
 t σ H1 λvs H2=>sp (x::(vs++eK)) H2 Q E
theorem WI(ha:PA X.eZ es t)(I:Inv X af σ H s)(h:t σ H Q):
  Y1 X X.A (spliced (backTo pos (starEach es X.env))) (AP X af σ Q) E' s:=
 adU (ha pos af s σ H Q (I.kM _) h) (λus s1 ⟨vs,H1,I1,q⟩=>⟨vs,H1,I1.lP,q⟩) λ_ _ z=>False.elim z
theorem Zs(ha:PE X.eZ o ta)(I:Inv X af σ H s)(h:ta σ H Q):
  Y1 X X.A (eval o X.env) (EP X af σ Q) E' s:=
 adU (ha af s σ H Q (I.kM _) h) (λus s1 ⟨vs,H1,I1,q⟩=>⟨vs,H1,I1.lP,q⟩) λ_ _ z=>False.elim z
theorem UC(he:PE X.eZ o ta)(c:kC X.K C)(hm:kG X.K C m f)(F:bX X.prog X.w X.K X.mg X.base (iz X.prog X.w) k f fd ps sp cm)(hr:bu k X.A cm)(hx:X.ex=[])(hb:Binds X.K fd ps ds)(hd:aU eK ds)(ha:PA X.eZ (e::es) t)
  (cX:starEach (e::es) X.env=(false,eval e X.env)::starEach es X.env:=by rfl) (hpl:(backTo pos (starEach es X.env)).any (·.1)=false:=by rfl)
  (ht:eval (.Call (.Attribute o m apos) (e::es) [] pos) X.env=(do
   let ov <- eval o X.env
   standAt apos.atName
   let(f,first) <- holding [ov] (getMethod ov m pl)
   callWith pos f first (backTo pos (starEach (e::es) X.env)) (backToKw pos (keywordEach [] X.env))):=by rfl) :
  PX X (.Call (.Attribute o m apos) (e::es) [] pos) (acH C m sp eK ta t):=by
 intro af s σ H Q E I h;refine PySem.W.methodCall_KW (aM (Zs he I h) λu s1 hq=>?_) ht;obtain⟨x,H1,I1,rx,a,dx,fs,ex,ea,l,q⟩:=hq;subst ex;exists 66;refine J6 I1 ea c hm l ?_;exact PySem.W.callWith_K I.ok.mod.s_ hm.kp (aM (WI ha I1 q) λus s2 ⟨vs,H2,I2,r,q2⟩=>⟨I2.c8,afV (vs:=.ref a::vs) F hr hb hd hx I2 (.cons rfl r) q2⟩) cX hpl
theorem Nj(th:rJ X ES)(h:Cd X af σ (λcls aQ H=>ES cls aQ σ H) v s):X.xe v s:=by
 obtain⟨a,cls,aQ,H',rfl,L,q⟩:=h;exact th af σ H' s a cls aQ L q
def SG(i:Nat)(ES:XS)(t:TX):TS:=λD σ H=>t σ H (λv H1=>D.nx (σ.set i (some v)) H1) λcls aQ H'=>ES cls aQ σ H'
theorem Lp(th:rJ X ES)(hN:X.N.Nodup)(hi:X.N[i]? = some x)(hx:Loc X.env.scope x)(he:PX X e t)(hs:swapsWith e (some (.Name x pos')) pos.line X.env=pure false:=by rfl)(hf:v6 X x:=by first|exact .inl rfl|exact .inr rfl|assumption):
  PS X (.Assign [.Name x pos'] e pos) (SG i ES t):=by
 exists 48;refine wpAny_Assign_Name (adU (he af s σ H _ _ I h) (λv s1 ⟨y,H1,I1,r1,q1⟩=>?_) λ_ _ z=>Nj th z) hs;exact z8 I1 hN hi hx r1 (λs2 I2=>⟨_,H1,I2,q1⟩) hf
def aan(ES:XS)(t:TX):TS:=λD σ H=>t σ H (λ_ H1=>D.nx σ H1) λcls aQ H'=>ES cls aQ σ H'
theorem PU(th:rJ X ES)(he:PX X e t)(hs:swapsWith e none pos.line X.env=pure false:=by rfl):PS X (.Expr e pos) (aan ES t):=by
 exists 48;exact wpAny_Expr_any (adU (he af s σ H _ _ I h) (λv s1 ⟨x,H1,I1,r1,q1⟩=>⟨σ,H1,I1,q1⟩) λ_ _ z=>Nj th z) I.quiet hs
noncomputable abbrev Cx.kr(X:Cx)(af:List (Addr×Obj))(R:XS):Cx:={ X with pn:=X.pn++af,xe:=λe s'=>∃σ H a cls aQ,e=.ref a/\gk X af σ H a cls aQ s'/\R cls aQ σ H }
section
variable{X:Cx}
theorem Cx.Ok.kr(ok:X.Ok):(X.kr af R).Ok:=
 ⟨ok.mod,ok.kind,ok.glob,ok.blt,ok.above,ok.inj,ok.has,ok.oO,ok.hd,ok.frames,ok.pQ,ok.rR,ok.bs,ok.i_,ok.nZ,ok.n6,ok.iZ,ok.lO⟩
theorem Cx.Ok.n_(ok:(X.kr af R).Ok):X.Ok:=
 ⟨ok.mod,ok.kind,ok.glob,ok.blt,ok.above,ok.inj,ok.has,ok.oO,ok.hd,ok.frames,ok.pQ,ok.rR,ok.bs,ok.i_,ok.nZ,ok.n6,ok.iZ,ok.lO⟩
theorem Inv.kr(I:Inv X af σ H s):Inv (X.kr af R) [] σ H s:=⟨I.ok.kr,I.os,I.bare,I.base,I.loc,I.cell,I.free,I.gS,λp hp=>I.pin p (by simpa using hp),I.aE,I.len,I.hq⟩
theorem Inv.n_(I:Inv (X.kr af R) yR σ H s):Inv X af σ H s:=⟨I.ok.n_,I.os,I.bare,I.base,I.loc,I.cell,I.free,I.gS,λp hp=>I.pin p (abq _ hp),I.aE,I.len,I.hq⟩
theorem gk.n_(L:gk (X.kr af R) yR σ H e cls aQ s):gk X af σ H e cls aQ s:=by
 obtain⟨py,I,fr,⟨a1,a2,a3,a4⟩,oe,vs,a0,T,oT,ts,h1,h2,h0,h3,t1,t2,tH,⟨b1,b2,b3,b4⟩,t5⟩:=L;exact⟨py.imp λ_ z=>⟨z.1,z.2.1,z.2.2.1,λp hp=>z.2.2.2 p (abq _ hp)⟩,I.n_,fr,⟨a1,a2,a3,λp hp=>a4 p (abq _ hp)⟩,oe,vs,a0,T,oT,ts,h1,h2,h0,h3,t1,t2,tH,⟨b1,b2,b3,λp hp=>b4 p (abq _ hp)⟩,t5⟩
theorem abm:rJ (X.kr af R) R:=λyR σ H s e cls aQ L q=>⟨σ,H,e,cls,aQ,rfl,L.n_,q⟩
end
noncomputable abbrev Cx.nF(X:Cx)(a:Addr):Cx:={ X with A:=X.A.mark (some (.ref a)),calm:=false,xe:=λ_ _=>False }
theorem Inv.nF(I:Inv X af σ H s)(a:Addr)(hq:rX (X.A.mark (some (.ref a))) H):Inv (X.nF a) af σ H s:=
 ⟨⟨I.ok.mod,I.ok.kind,I.ok.glob,I.ok.blt,I.ok.above,I.ok.inj,I.ok.has,I.ok.oO,λz=>Bool.noConfusion z,I.ok.frames,I.ok.pQ,I.ok.rR,I.ok.bs,I.ok.i_,I.ok.nZ,I.ok.n6,I.ok.iZ,I.ok.lO⟩,I.os,I.bare,I.base,I.loc,I.cell,I.free,I.gS,I.pin,I.aE,I.len,⟨hq,I.hq.ok,I.hq.lm⟩⟩
theorem Inv.abH(hc:X.calm=true)(I0:Inv X af σ H s)(I:Inv (X.nF a) af az H' s'):Inv X af az H' s':=
 ⟨I0.ok,I.os,I.bare,I.base,I.loc,I.cell,I.free,I.gS,I.pin,I.aE,I.len,⟨.inl (I0.ok.hd hc),I.hq.ok,I.hq.lm⟩⟩
theorem Inv.Cf(I:Inv X af σ H s)(fr:H e=none)(ap:Apart X af e)(ok:di X.prog X.w (upd H e u) s.heap e u):Inv X af σ (upd H e u) s:=by
 obtain⟨a1,a2,a3,a4⟩:=ap;have ne:∀{b} {o},H b=some o->b≠e:=λ{b o} q z=>by rw[z,fr] at q;cases q
 refine⟨I.ok,I.os,I.bare,⟨I.base.keep,I.base.slot,λb o q n hx=>?_,I.base.there,λb xs q=>?_,λb o u q=>?_,λb ps q=>?_⟩,I.loc,I.cell,?_,λx c q=>?_,λp hp=>?_,λb o q=>?_,I.len,I.hq.mono (λb o u q=>by rw[aP (ne q)];exact q) λb t q=>by rw[aP (ne q)];exact q⟩
 .rw[aP λz=>by rw[z,a1] at q;cases q];exact I.base.free b o q n hx
 .have w:=I.base.jl b xs q;rw[aP (ne w)];exact w
 .have w:=I.base.jo b o u q;rw[aP (ne w)];exact w
 .obtain⟨more,w⟩:=I.base.ko b ps q;exact⟨more,by rw[aP (ne w)];exact w⟩
 .rw[aP λz=>a2 z.symm];exact I.free
 .rw[aP (a3 x c q)];exact I.gS x c q
 .obtain⟨p1,p2,p3⟩:=I.pin p hp;exact⟨p1,by rw[aP (a4 p hp)];exact p2,p3⟩
 .by_cases z:b=e
  .subst z;rw[cB] at q;cases q;exact ok
  .rw[aP z] at q;exact(I.aE b o q).gx (λ_ _ _ q=>q) (λc q=>by rw[aP (ne q)];exact q) λc xs q=>by rw[aP (ne q)];exact q
def rC(H H':Hp)(a:Addr)(cls:Value)(aQ:Option Addr):Prop:=∃ob vs,ob.data=.fields vs/\vs[2]? = some .none/\match aQ with
 |none=>H'=upd H a (yF ob a cls none)
 |some n=>∃dx,dx≠a/\H dx=none/\H'=upd (upd H dx (Dy dx n)) a (yF ob a cls (some dx))
theorem gk.known(L:gk X af σ H e cls aQ s):∃H',rC H H' e cls aQ/\Inv X af σ H' s:=by
 obtain⟨oe,vs,a0,T,oT,ts,h1,h2,h0,hd,_⟩:=L.ob;obtain⟨⟨o0,c1,c2⟩,py⟩:=L.py;rw[h1] at c1;cases c1;have c3:vs[2]? = some .none:=by unfold l_ at c2;rw[hd] at c2;exact c2
 have nc:PySem.W.notCls oe=true:=by
  obtain⟨c,d,dt,sl⟩:=oe;dsimp only at hd;subst hd;rfl
 cases aQ with
 |none=>exact⟨_,⟨oe,vs,hd,c3,rfl⟩,L.inv.Cf L.fr L.ap ⟨h1,QV h1 h2 λ_ z=>by cases z⟩⟩
 |some n=>
  obtain⟨wu,dx,t,g1,g2,g3,g4,g5⟩:=py;rw[h1] at g1;cases g1;have ne:dx≠e:=λz=>by
   obtain⟨o,es,ep,q1,q2,_⟩:=g3;rw[z,h1] at q1;cases q1;rw[hd] at q2;cases q2
  have I1:=L.inv.Cf g4 g5 (Zw g3);exact⟨_,⟨oe,vs,hd,c3,dx,ne,g4,rfl⟩,I1.Cf (by rw[aP ne.symm];exact L.fr) L.ap ⟨h1,QV h1 h2 λ_ z=>by cases z;exact⟨g2,nc⟩⟩⟩
theorem rC.hq{A:Around}(k:rC H H' a cls aQ):rX (A.mark (some (.ref a))) H':=by
 obtain⟨ob,vs,h1,h2,k⟩:=k;refine .inr ⟨a,ob,?_⟩;cases aQ with
 |none=>subst k;exact⟨_,vs,rfl,cB,h1,h2⟩
 |some n=>obtain⟨dx,_,_,rfl⟩:=k;exact⟨_,vs,rfl,cB,h1,h2⟩
theorem rC.same(k:rC H H' a cls aQ)(fr:H a=none)(q:H b=some o):H' b=some o:=by
 obtain⟨ob,vs,_,_,k⟩:=k;cases aQ with
 |none=>subst k;rw[aP (cV q fr)];exact q
 |some n=>obtain⟨dx,ne,d,rfl⟩:=k;rw[aP (cV q fr),aP (cV q d)];exact q
theorem YQ(Iv:Nat->Shared->Prop)
  (turn:∀n s,Iv n s->wpAny (model prog w) A (pyNext it) (λr s1=>match r with
   |none=>R (.ok .next) s1
   | some v=>wpAny (model prog w) A (letOwnedTupleGo tg it v) (λ_ pU=>wpAny (model prog w) A (assign tg env v) (λ_ s2=>
     wpAny (model prog w) A (forIn ifs true λc r=>if r=true then do let ok <- isTrue c env (eval c env);pure (ForInStep.yield ok) else pure (ForInStep.yield r)) (λok s3=>
      if ok=true then wpAny (model prog w) A (eval elt env) (λx s4=>
       wpAny (model prog w) A (call (.builtin "list.append") [acc,x]) (λ_ s5=>∃m,m<n/\Iv m s5) (λ_ _=>False) s4) (λ_ _=>False) s3
      else ∃m,m<n/\Iv m s3) (λ_ _=>False) s2) (λ_ _=>False) pU) (λ_ _=>False) s1) (λ_ _=>False) s)
  (n:Nat) (hn:Iv n s):codeAny (model prog w) A (.compLoop (.ListComp elt [⟨tg,iter,ifs,0⟩] scope pos) 0 it acc env) R s:=by
 have ff:∀{E:Value->Shared->Prop} (x) (s),False->E x s:=λ_ _ f=>f.elim
 refine codeAny_loop rfl Iv (λk s0 hI=>?_) n hn;refine wpAny_noted ?_;rw[compTurn_list];refine aa7 (wpAny_standAt (aa7 (adU (turn k s0 hI) (λr s1 h1=>?_) ff)));cases r with
 |none=>exact acD h1
 |some v=>
  refine aa7 (adU h1 (λ_ pU ie=>aa7 (adU ie (λ_ s2 h2=>aa7 (adU h2 (λok s3 h3=>?_) ff)) ff)) ff);cases ok with
  |false=>exact acD ⟨rfl,h3⟩
  |true=>exact aa7 (aa7 (adU h3 (λx s4 h4=>aa7 (adU h4 (λ_ s5 h5=>acD (acD ⟨rfl,h5⟩)) ff)) ff))
noncomputable def frees(sc:Scope):List Str:=(sc.names.filter λx=>x.2 == .free).map (·.1)
noncomputable def lY(env:Env):List (Str×NameKind)->List (Str×Addr)->List (Str×Addr)
 |[],cs=>cs
 |(n,k)::r,cs=>lY env r (if k == .free then(n,(env.cells.lookup n).getD 0)::cs else cs)
theorem Na(h:∀x∈frees sc,∃c,env.cells.lookup x=some c):closureFor sc env=pure (lY env sc.names []):=by
 have key:∀(l) (cs),(∀x∈(l.filter λx=>x.2 == .free).map (·.1),∃c,env.cells.lookup x=some c)->
   (forIn l cs λx r=>(do
    let(name,kind):=x
    if kind == .free then do
     let a <- cellOf env name
     pure (ForInStep.yield ((name,a)::r))
    else pure (ForInStep.yield r):Sem (ForInStep (List (Str×Addr)))))=pure (lY env l cs):=by
  intro l
  induction l with
  |nil=>intro cs _;rfl
  |cons p r ih=>
   obtain⟨n,k⟩:=p;intro cs h;rw[List.forIn_cons]
   by_cases hk:(k==NameKind.free)=true
   .obtain⟨c,hc⟩:=h n (by simp[hk]);have C1:=ih ((n,c)::cs) λx hx=>h x (by simp only[agC,hk,if_true,aas,abb];exact Or.inr hx)
    have e:cellOf env n=pure c:=by unfold cellOf;rw[hc]
    simp only[hk,if_true,e,pure_bind,lY,hc,ag7];exact C1
   .have C1:=ih cs λx hx=>h x (by simp only[agC,hk];exact hx)
    simp only[hk,lY,agG,if_false,pure_bind];exact C1
 unfold closureFor;have k:=key sc.names [] h;simp only[bind_pure] at k ⊢
 first
  |exact k
  |(simp only[pure_bind];exact k)
theorem RM:∀{l} {cs} {x} {c},(lY env l cs).lookup x=some c->
  cs.lookup x=some c\/((x,NameKind.free)∈l/\c=(env.cells.lookup x).getD 0)
 |[],_,_,_,h=>.inl h
 |(n,k)::r,cs,x,c,h=>by
  rcases RM (l:=r) h with q|⟨q,e⟩
  .by_cases hk:(k==NameKind.free)=true
   .rw[if_pos hk,aet] at q
    by_cases hx:(x==n)=true
    .rw[hx] at q;have e:=eq_of_beq hx;subst e;have VB:k=.free:=by cases k<;>first|rfl|exact absurd hk (by decide)
     subst VB;exact .inr ⟨aar,(ab1 q).symm⟩
    .rw[agR] at hx;rw[hx] at q;exact .inl q
   .rw[if_neg hk] at q;exact .inl q
  .exact .inr ⟨aaa _ q,e⟩
theorem J5:∀{l} {cs} {x},(∃c,cs.lookup x=some c)\/(x,NameKind.free)∈l->∃c,(lY env l cs).lookup x=some c
 |[],_,_,h=>h.elim id λz=>nomatch z
 |(n,k)::r,cs,x,h=>by
  refine J5 (l:=r) ?_;rcases h with⟨c,h⟩|h
  .left
   by_cases hk:(k==NameKind.free)=true
   .rw[if_pos hk,aet]
    by_cases hx:(x==n)=true
    .rw[hx];exact⟨_,rfl⟩
    .rw[agR] at hx;rw[hx];exact⟨c,h⟩
   .rw[if_neg hk];exact⟨c,h⟩
  .rcases abb.mp h with e|h
   .left
    cases e;rw[if_pos (by decide),aet,afl];exact⟨_,rfl⟩
   .exact .inr h
def fC(X:Cx)(N:List Str)(sc:Scope)(s3:Shared)(H3:Hp)(fp:List Addr):Cx:=
 { X with N:=N,cG:=s3,uh:=H3,env:=compEnvC sc (lY X.env sc.names []) s3.heap.objs.size X.env,outer:=X.stack,stack:=X.stack,ex:=fp,fn:=λ_=>false,pn:=[],xe:=λ_ _=>False }
noncomputable def lB(js:List (Option Nat))(σ:St):St:=js.map λj=>match j with
 |none=>none
 |some j=>(σ[j]?).join
noncomputable def pq(N:List Str)(sc:Scope):List Str->List (Option Nat)->Bool
 |[],[]=>true
 |x::r,none::js=>pq N sc r js
 |x::r,some j::js=>decide (N[j]? = some x)&&decide (sc.names.lookup x=some .free)&&pq N sc r js
 |_,_=>false
theorem BK:∀{M} {js},pq N sc M js=true->js.length=M.length
 |[],[],_=>rfl
 |_::r,none::js,h=>by
  have:=BK (js:=js) h;simp[this]
 |_::r,some j::js,h=>by
  unfold pq at h;have:=BK ((abn _ _).mp h).2;simp[this]
 |[],_::_,h=>by cases h
 |_::_,[],h=>by cases h
theorem DT:∀{M} {js}{i j:Nat} {x},pq N sc M js=true->M[i]? = some x->js[i]? = some (some j)->N[j]? = some x/\sc.names.lookup x=some .free
 |[],_,_,_,_,_,h,_=>by simp at h
 |_::_,[],_,_,_,h,_,_=>by cases h
 |y::r,none::js,0,j,x,h,h1,h2=>by simp at h2
 |y::r,some q::js,0,j,x,h,h1,h2=>by
  simp at h1 h2;subst h1 h2;unfold pq at h;obtain⟨a,b⟩:=(abn _ _).mp ((abn _ _).mp h).1;exact⟨abd a,abd b⟩
 |y::r,none::js,i+1,j,x,h,h1,h2=>DT (js:=js) h (by simpa using h1) (by simpa using h2)
 |y::r,some q::js,i+1,j,x,h,h1,h2=>by
  unfold pq at h;exact DT ((abn _ _).mp h).2 (by simpa using h1) (by simpa using h2)
structure nS(X:Cx)(M:List Str)(js:List (Option Nat))(sc:Scope):Prop where
 kind:sc.kind=.function
 yx:∀y∈sc.names,y.2≠.cell
 loc:∀y∈sc.names,y.2=.local->sc.names.lookup y.1=some .local
 JQ:pq X.N sc M js=true
 free:∀x∈frees sc,X.env.kindOf x=some .cell\/X.env.kindOf x=some .free
 nd:M.Nodup
def Ga(wi:TI)(js:List (Option Nat))(g:TG)(tt:TT)(te:TE):TE:=λσ H Q=>wi σ H λJ H1=>∀D,H1 D=none->
 ∃W:Nat->Nat->St->Hp->Prop,(∃m,W 0 m (lB js σ) (upd H1 D (.lst [])))/\∀i m az H',W i m az H'->
  (J.stop i H'/\Q (.ref D) H')\/(J.go i H'/\∀x H2,J.wX i H' x H2->g x az H2 λcT H3=>tt cT H3 λb H4=>
   if b=true then te cT H4 λy H5=>∃xs,H5 D=some (.lst xs)/\xs.length<sizeLine/\∃m',m'<m/\W (i+1) m' cT (upd H5 D (.lst (xs++[y])))
   else ∃m',m'<m/\W (i+1) m' cT H4)
def wY(X:Cx)(ifs:List Expr)(t:TT):Prop:=
 ∀(af) (s) (σ) (H) (Q),Inv X af σ H s->t σ H Q->
  Y1 X X.A (forIn ifs true λc r=>if r=true then do let ok <- isTrue c X.env (eval c X.env);pure (ForInStep.yield ok) else pure (ForInStep.yield r)) (TP X af σ Q) X.xe s
theorem aad(h:PT X c t):wY X [c] t:=λaf s σ H Q I q=>wpAny_tests_one (h af s σ H Q I q)
theorem Inv.comp(S:nS X M js sc)(I:Inv X af σ H3 s3)
  (hf:∀b∈fp,iQ X af H3 b) (cU:∀b∈fp,b<s3.heap.objs.size) (hn:h'.Ns s3.heap.objs.size λ_=>none) (hk:∀b o,s3.heap.get? b=some o->h'.get? b=some o) :
  Inv (fC X M sc s3 H3 fp) [] (lB js σ) H3 { s3 with heap:=h',toks:=tk }:=by
 have cl:∀{x} {c},(lY X.env sc.names []).lookup x=some c->X.env.cells.lookup x=some c:=λ{x c} e=>by
  rcases RM e with q|⟨q,e'⟩
  .cases q
  .obtain⟨c',hc⟩:=I.ok.has x (S.free x (abX.mpr ⟨(x,.free),acL.mpr ⟨q,rfl⟩,rfl⟩));rw[hc] at e' ⊢;rw[e'];rfl
 have i_:=adE I.ok.i_ I.sz;have lk:∀{x},sc.names.lookup x=some .free->(relabel sc X.env).names.lookup x=some .cell\/(relabel sc X.env).names.lookup x=some .free:=λ{x} e=>by
  have key:∀(l:List (Str×NameKind)),l.lookup x=some .free->(l.map λ(n,k)=>if(k==NameKind.free&&X.env.scope.kind == .function&&X.env.kindOf n==some .cell) then(n,NameKind.cell) else(n,k)).lookup x=some .cell\/
    (l.map λ(n,k)=>if(k==NameKind.free&&X.env.scope.kind == .function&&X.env.kindOf n==some .cell) then(n,NameKind.cell) else(n,k)).lookup x=some .free:=by
   intro l
   induction l with
   |nil=>intro e;cases e
   |cons p r ih=>
    obtain⟨n,k⟩:=p;intro e;rw[aet] at e;rw[aas]
    by_cases hx:(x==n)=true
    .rw[hx] at e;have e':=ab1 e;subst e';dsimp only
     split
     .left;rw[aet,hx]
     .right;rw[aet,hx]
    .rw[agR] at hx;rw[hx] at e;dsimp only
     split<;>(rw[aet,hx];exact ih e)
  exact key sc.names e
 have kf:∀{x},((relabel sc X.env).names.lookup x=some .cell\/(relabel sc X.env).names.lookup x=some .free)->(x,NameKind.free)∈sc.names:=λ{x} e=>by
  have key:∀(l:List (Str×NameKind)),(∀y∈l,y.2≠.cell)->((l.map λ(n,k)=>if(k == NameKind.free&&X.env.scope.kind == .function&&X.env.kindOf n == some .cell) then(n,NameKind.cell) else(n,k)).lookup x=some .cell\/
    (l.map λ(n,k)=>if(k==NameKind.free&&X.env.scope.kind == .function&&X.env.kindOf n==some .cell) then(n,NameKind.cell) else(n,k)).lookup x=some .free)->(x,NameKind.free)∈l:=by
   intro l
   induction l with
   |nil=>intro _ e;rcases e with e|e<;>cases e
   |cons p r ih=>
    obtain⟨n,k⟩:=p;intro nc e;rw[aas] at e
    by_cases hx:(x==n)=true
    .have e0:=eq_of_beq hx;subst e0;have Zg:k=.free:=by
      exists 70
      split at e
      .rename_i hc;have:=((abn _ _).mp ((abn _ _).mp hc).1).1;cases k<;>first|rfl|exact absurd this (by decide)
      .rw[aet,afl] at e;rcases e with e|e
       .exact absurd (ab1 e) (nc _ aar)
       .exact ab1 e
     rw[Zg];exact aar
    .rw[agR] at hx;refine aaa _ (ih (λy hy=>nc y (aaa _ hy)) ?_);dsimp only at e
     split at e<;>(rw[aet,hx] at e;exact e)
  exact key sc.names S.yx e
 refine⟨⟨I.ok.mod,S.kind,I.ok.glob,I.ok.blt,abT _,λx y c h1 h2=>I.ok.inj x y c (cl h1) (cl h2),λx hx=>J5 (.inr (kf hx)),(λx c h _=>by cases h),I.ok.hd,I.ok.frames,.inl rfl,λb hb=>⟨acI (cU b hb),λx c e=>(hf b hb).2.2.2.2.1 x c (cl e)⟩,
   I.bs,i_,λb o e hb=>?_,λb hb xB=>?_,I.stack,I.vR⟩,
  rfl,I.bare,Un.kept hk,⟨_,hn,λi x v h1 h2 h3=>?_⟩,λx c e=>?_,I.aE.fresh (abT _),λx c e=>I.gS x c (cl e),λp hp=>absurd (show p∈([]:List (Addr×Obj)) from hp) (by simp),I.aE.kept hk,?_,I.hq⟩
 .rcases(hf b hb).2.2.2.1 with z|z
  .exact I.ok.nZ b o e z
  .exact absurd (acU (abM e) (adE I.ok.i_ z)) (aeM _)
 .rcases abb.mp (I.Bj b xB) with z|z
  .exact(hf b hb).2.1 z
  .exact(hf b hb).2.2.1 z
 .have hlen:=BK S.JQ;have hi:i<js.length:=by rw[hlen];exact(abL.mp h1).1
  unfold lB at h2;rw[aco,abp hi,Option.map_some] at h2;exists hj,js[i],j,h2;have mO:(σ[j]?).join=some v:=ab1 h2;obtain⟨a,b⟩:=DT S.JQ h1 (by rw[abp hi,hj]);have hs:σ[j]? = some (some v):=by
   exists q,σ[j]?,z,mO;rw[show z=some v from mO]
  have oN:=S.free x (abX.mpr ⟨(x,.free),acL.mpr ⟨PySem.mem_of_lookup b,rfl⟩,rfl⟩);obtain⟨m,hm,hl⟩:=I.loc;obtain⟨u,ru,l⟩:=hl j x v a hs (oN.elim (λz=>.inr (.inl z)) λz=>.inr (.inr z));refine⟨u,ru,.inr ⟨lk b,?_⟩⟩;rcases l with⟨k,_⟩|⟨_,c,e,hc⟩
  .rcases oN with z|z<;>(rw[z] at k;cases k)
  .obtain⟨c',tL⟩:=J5 (.inr (PySem.mem_of_lookup b));have e':=cl tL;rw[e] at e';have e2:=ab1 e';subst e2;obtain⟨o,ho,hd⟩:=hc;exact⟨c,tL,o,hk _ _ ho,hd⟩
 .obtain⟨v,o,ho,hd⟩:=I.cell x c (cl e);exact⟨v,o,hk _ _ ho,hd⟩
 .unfold lB;rw[List.length_map];exact BK S.JQ
theorem Inv.MG(I:Inv X af σ H3 s3)(hf:∀b∈fp,iQ X af H3 b)
  (J:Inv (fC X M sc s3 H3 fp) yR az H' s') (hs:Heap.SameBut s3.heap.objs.size s'.heap h'):Inv X af σ H' { s' with heap:=h' }:=by
 have B:=J.base;have ne:∀{b} {o},s3.heap.get? b=some o->b≠s3.heap.objs.size:=λe=>acI (abM e)
 have B':Un (aY X.stack) fp H3 H' s3.heap h':=⟨λb o e n hb hx=>(hs.2 b (ne e)).trans (B.keep b o e n hb hx),λb o e n hb hx=>let⟨sl,q⟩:=B.slot b o e n hb hx;⟨sl,(hs.2 b (ne e)).trans q⟩,B.free,
  λb o e hx=>let⟨o',q⟩:=B.there b o e hx;⟨o',(hs.2 b (ne e)).trans q⟩,B.jl,B.jo,B.ko⟩
 have fr:H' s3.heap.objs.size=none:=J.free;refine I.Ll J.os B' (λb u e=>?_) J.bare λb hb=>⟨(hf b hb).2.2.2.1,(hf b hb).2.1,(hf b hb).2.2.2.2.1,(hf b hb).2.2.2.2.2⟩
 refine(J.aE b u e).gx (λc v hc q=>(hs.2 c ?_).trans q) (λ_ q=>q) λ_ _ q=>q
 rintro rfl
 rcases hc with rfl|hc
 .rw[fr] at e;cases e
 .rw[fr] at hc;cases hc
theorem NS
  {Q:VK}{RR:Value->Addr->Result->Shared->Prop} (S:nS X M js sc) (hc:X.calm=true\/J.rg=true) (I2:Inv X af σ H2 s2) (T:Turn X.prog X.w X.K tg J fp it tn) (st:tn 0 s2.heap) (hf:∀b∈fp,iQ X af H2 b)
  (hb:∀s3 H3 fp,PG (fC X M sc s3 H3 fp) tg g/\wY (fC X M sc s3 H3 fp) ifs tt/\PE (fC X M sc s3 H3 fp) elt te)
  (h:∀D,H2 D=none->∃W:Nat->Nat->St->Hp->Prop,(∃m,W 0 m (lB js σ) (upd H2 D (.lst [])))/\∀i m az H',W i m az H'->
   (J.stop i H'/\Q (.ref D) H')\/(J.go i H'/\∀x H2,J.wX i H' x H2->g x az H2 λcT H3=>tt cT H3 λb H4=>
    if b=true then te cT H4 λy H5=>∃xs,H5 D=some (.lst xs)/\xs.length<sizeLine/\∃m',m'<m/\W (i+1) m' cT (upd H5 D (.lst (xs++[y])))
    else ∃m',m'<m/\W (i+1) m' cT H4))
  (hR:∀D s3 H3 s' az H',Inv X af σ H3 s3->(∀b∈fp,iQ X af H3 b)->Inv (fC X M sc s3 H3 fp) [] az H' s'->Q (.ref D) H'->RR (.ref D) s3.heap.objs.size (.ok .next) s') :
  Y1 X X.A (newList []) (λacc BN=>Y1 X X.A (newFunctionEnv sc X.env.globals (lY X.env sc.names []) [] X.env.qual none .none (some X.env)) (λRH adI=>
   codeAny (model X.prog X.w) X.A (.compStart (.ListComp elt [⟨tg,iter,ifs,0⟩] sc pos) 0 (.ref it) acc { RH with scope:=relabel sc X.env }) (RR acc RH.locals) adI) X.xe BN) X.xe s2:=by
 have T_:=I2.aE.fresh (abT _);obtain⟨W,⟨m0,w0⟩,turn⟩:=h _ T_;have I3:Inv X af σ (upd H2 s2.heap.objs.size (.lst [])) { s2 with heap:=s2.heap.push { cls:=.type "list",data:=.seq ([]:List Value).toArray } }:=
  I2.laid (λ_ _ q=>aaT _ q) (abT _) ⟨aes _,[],0,.nil,ab3 _ rfl⟩
 have Iw:∀b∈fp,b<s2.heap.objs.size:=λb hb=>let⟨_,e,_⟩:=T.obj _ _ st b hb;abM e
 have F1:∀b∈fp,iQ X af (upd H2 s2.heap.objs.size (.lst [])) b:=λb hb=>⟨by rw[aP (acI (Iw b hb))];exact(hf b hb).1,(hf b hb).2⟩
 have hsz:(s2.heap.push { cls:=.type "list",data:=.seq ([]:List Value).toArray }).objs.size=s2.heap.objs.size+1:=agU ..;refine agY (wpAny_newFunctionEnv S.yx (λy hy=>nomatch hy) (λh1 EU Wc=>?_) S.kind);generalize CK:({ s2 with heap:=s2.heap.push { cls:=.type "list",dict:=none,data:=.seq ([]:List Value).toArray } }:Shared)=s3 at *;have Kq:∀b o,s3.heap.get? b=some o->h1.get? b=some o:=λb o e=>(Wc.2 b (acI (abM e))).trans (aaT _ e)
 have Mt:∀b∈fp,b<s3.heap.objs.size:=λb hb=>by rw[<- CK];show b<(s2.heap.push _).objs.size;rw[hsz];exact ahj (Iw b hb)
 have I4:Inv (fC X M sc s3 (upd H2 s2.heap.objs.size (.lst [])) fp) [] (lB js σ) (upd H2 s2.heap.objs.size (.lst [])) { s3 with heap:=h1,toks:=s3.toks+([]:List (Str×Value)).length }:=I3.comp S F1 Mt EU Kq;obtain⟨hg,ht,he⟩:=hb s3 (upd H2 s2.heap.objs.size (.lst [])) fp;have sE:∀{H'},(∀b∈fp,H' b=none)->∀b∈fp,iQ (fC X M sc s3 (upd H2 s2.heap.objs.size (.lst [])) fp) [] H' b:=λ{H'} hn b hb=>
  ⟨hn b hb,acI (Mt b hb),I4.ok.n6 b hb,.inl hb,(I4.ok.rR b hb).2,λp hp=>absurd (show p∈([]:List (Addr×Obj)) from hp) (by simp)⟩
 have Nh:=T.keep _ _ _ st λb hb o e=>Kq b o (by rw[<- CK];exact aaT _ e)
 have Tr:∀b∈fp,upd H2 s2.heap.objs.size (.lst []) b=none:=λb hb=>(F1 b hb).1
 have loop:codeAny (model X.prog X.w) X.A (.compLoop (.ListComp elt [⟨tg,iter,ifs,0⟩] sc pos) 0 (.ref it) (.ref s2.heap.objs.size) (compEnvC sc (lY X.env sc.names []) s3.heap.objs.size X.env)) (RR (.ref s2.heap.objs.size) s3.heap.objs.size)
   { s3 with heap:=h1,toks:=s3.toks+([]:List (Str×Value)).length }:=by
  refine YQ (λn s'=>∃i az H',Inv (fC X M sc s3 (upd H2 s2.heap.objs.size (.lst [])) fp) [] az H' s'/\tn i s'.heap/\(∀b∈fp,H' b=none)/\W i n az H') ?_ m0 ⟨0,_,_,I4,Nh,Tr,w0⟩
  rintro n s5 ⟨i,zW,H5,I5,vI,lK,w5⟩
  rcases turn i n zW H5 w5 with⟨stop,q⟩|⟨go,step⟩
  .refine aM (T.done (fC X M sc s3 (upd H2 s2.heap.objs.size (.lst [])) fp) rfl rfl rfl hc i [] s5 zW H5 _ I5 (sE lK) vI stop) λr s6 ⟨hr,I6⟩=>?_
   subst hr;exact hR _ _ _ _ _ _ I3 F1 I6 q
  .refine aM (T.item (fC X M sc s3 (upd H2 s2.heap.objs.size (.lst [])) fp) rfl rfl rfl hc i [] s5 zW H5 _ I5 (sE lK) vI go) λr s6 ⟨u,hr,h6⟩=>?_
   subst hr;refine aM h6 λ_ s7 ⟨x,H7,I7,r7,y7,JX,Tc⟩=>?_
   have I7':=I7.pinned (sE Tc) (T.obj _ _ JX);have back:∀{qp} {H8} {s8},Inv (fC X M sc s3 (upd H2 s2.heap.objs.size (.lst [])) fp) ([]++xG fp s7.heap) qp H8 s8->tn (i+1) s8.heap/\(∀b∈fp,H8 b=none):=λ{qp H8 s8} I8=>
    ⟨T.keep _ _ _ JX λb hb o e=>(I8.pin (b,o) (aaV _ (aaV _ (Ac hb e)))).1,λb hb=>by
     obtain⟨o,e,_⟩:=T.obj _ _ JX b hb;exact(I8.pin (b,o) (aaV _ (aaV _ (Ac hb e)))).2.1⟩
   refine aM (hg _ s7 zW H7 x u _ I7' r7 (step x H7 y7)) λ_ s8 ⟨qp,H8,I8,q8⟩=>?_
   refine aM (ht _ s8 qp H8 _ I8 q8) λok s9 ⟨H9,I9,q9⟩=>?_
   cases ok with
   |false=>
    rw[if_neg abz] at q9 ⊢;obtain⟨m',hm,w9⟩:=q9;obtain⟨a9,b9⟩:=back I9;exact⟨m',hm,i+1,qp,H9,I9.yq,a9,b9,w9⟩
   |true=>
    rw[if_pos rfl] at q9 ⊢;refine aM (he _ s9 qp H9 _ I9 q9) λy iD hq=>?_
    obtain⟨yv,KU,Zn,r10,xs,hD,hz,m',hm,w10⟩:=hq;refine aM (D6 _ iD qp KU (.ref s2.heap.objs.size) [yv] (.ref s2.heap.objs.size) [y] (λv Rx=>v=.aA/\Rx=upd KU s2.heap.objs.size (.lst (xs++[yv]))) Zn rfl (.cons r10 .nil) ⟨_,xs,yv,rfl,rfl,hD,hz,rfl,rfl⟩) λ_ gz ⟨v11,Rx,LZ,_,_,K3⟩=>?_
    subst K3;obtain⟨a9,b9⟩:=back LZ;exact⟨m',hm,i+1,qp,_,LZ.yq,a9,b9,w10⟩
 exact codeAny_compStart_list loop (T.self _ 0 _ _ _ Nh loop)
theorem aaZ{g:TG}(S:nS X M js sc)(hc:X.calm=true)(hi:PI X tg iter wi)
  (hb:∀s3 H3 fp,PG (fC X M sc s3 H3 fp) tg g/\wY (fC X M sc s3 H3 fp) ifs tt/\PE (fC X M sc s3 H3 fp) elt te) (hs:∀x,foldedSetIterable iter X.env x=pure x:=by intro _;rfl) :
  PE X (.ListComp elt [⟨tg,iter,ifs,0⟩] sc pos) (Ga wi js g tt te):=by
 exists 47;rw[eval_ListComp];refine wpAny_comprehension_free rfl hs (Na λx hx=>I.ok.has x (S.free x hx)) S.kind S.loc ?_;refine aM (hi af s σ H _ I h) λv s1 h1=>aM h1 λBv s2 hq=>?_
 obtain⟨it,fp,tn,J,H2,e,I2,T,sQ,f2,h2⟩:=hq;subst e;refine NS S (.inl hc) I2 T sQ f2 hb h2 λD s3 H3 s' az H' I3 f3 J' q=>?_
 obtain⟨m,hm,_⟩:=J'.loc;exact⟨m,hm,λh' cN=>⟨.ref D,H',I3.MG f3 J' cN,rfl,q⟩⟩
theorem Wp(hN:X.N.Nodup)(hy:X.N[i]? = some y)(hl:X.env.scope.names.lookup y=some .local)
  (S:nS X M js sc) (hc:X.calm=true) (hi:PI X tg iter wi) (hb:∀s3 H3 fp,PG (fC X M sc s3 H3 fp) tg g/\wY (fC X M sc s3 H3 fp) ifs tt/\PE (fC X M sc s3 H3 fp) elt te)
  (j7:swapsWith (.ListComp elt [⟨tg,iter,ifs,0⟩] sc pos) (some (.Name y py)) C8.line X.env=pure true:=by rfl) (hs:∀x,foldedSetIterable iter X.env x=pure x:=by intro _;rfl) :
  PS X (.Assign [.Name y py] (.ListComp elt [⟨tg,iter,ifs,0⟩] sc pos) C8) (Kl (Ga wi js g tt te) (Cm i)):=by
 exists 48;rw[exec_Assign_Name_used _ _ _ _ j7];refine aa7 (wpAny_standAt (aa7 ?_));refine aa7 (adU (wpAny_comprehension_free rfl hs (Na λx hx=>I.ok.has x (S.free x hx)) S.kind S.loc ?_) (λ_ s' q=>acD (acD q)) λ_ _ e=>e);refine aM (hi af s σ H _ I h) λv s1 h1=>aM h1 λBv s2 hq=>?_
 obtain⟨it,fp,tn,J,H2,e,I2,T,sQ,f2,h2⟩:=hq;subst e;refine NS (Q:=λx H1=>Cm i x σ H1 D.nx) S (.inl hc) I2 T sQ f2 hb h2 λDa s3 H3 s' az H' I3 f3 J' q=>?_
 have sb:Heap.SameBut s3.heap.objs.size s'.heap s'.heap:=⟨rfl,λ_ _=>rfl⟩
 have I5:=I3.MG f3 J' sb;obtain⟨m,hm,_⟩:=J'.loc;have ne:=acI I3.lt;refine wpAny_assign_Name (Ov I5 hN hy (.inl hl) (show RelV (.ref Da) (.ref Da) from rfl) (λs6 I6 ⟨a,E1,ha⟩=>?_) (.inr hl));have jV:∀x c,X.env.cells.lookup x=some c->c≠s3.heap.objs.size:=λx c e=>by
  obtain⟨v',jR⟩:=I3.cell x c e;exact acI jR.lt
 have na:=ha.elim (λe=>by rw[e];exact ne) λz=>jV y a z
 refine⟨m,hm.sameBut E1 (afr na),λh' cN=>⟨_,H',I6.turned (λb o hb e=>(cN.2 b hb).trans e) J'.free (afr ne) (.inr I3.sz) jV (λp hp=>?_),q⟩⟩;exact acI (abM (I3.pin p hp).1)
theorem afc:typeLookup (.type "dict") "__len__"=pure (some (.builtin "dict.__len__")):=by rw[typeLookup_type,builtinLookup_eq_fast];kernel_rfl
section
variable{prog:Program}{w:World}{A:Around}{E:Value->Shared->Prop}{s:Shared}
theorem Tq{κ:Type}[DecidableEq κ]{knd:KeyKind prog w κ}{ak:List (κ×Value)}{Q:List Value->Shared->Prop}(hh:A.handled=none)(hd:(d==sysModules)=false)(hm:s.heap.DictOf knd d ak)(hz:ak.length<=sizeLine)
  (hQ:∀s' acc,s.heap.objs.size<=s'.heap.objs.size->(∀b o,s.heap.get? b=some o->s'.heap.get? b=some o)->s'.gens=s.gens->s'.drawn=s.drawn->s'.os=s.os->ItemsOf (λi v=>∃k x,ak[i]? = some (k,x)/\knd.is k v=true) acc ak.length->Q acc.toList s') :
  wpAny (model prog w) A (collect (.ref d)) Q E s:=by
 obtain⟨ep,hm⟩:=hm.dictAt;have cU:=hm.lt_size;unfold collect;refine aa7 (wpAny_runValue (agm F.entry_proto_collect ?_));rw[afK F.plain_proto_collect _];refine aa7 (agY ?_);refine acD ⟨agM F.plain_list_iadd _,agm F.entry_list_iadd ?_⟩;rw[afK F.plain_list_iadd _];have oS:=hm.push { cls:=.type "list",data:=.seq ([]:List Value).toArray };have hT1:({ s with heap:=s.heap.push { cls:=.type "list",data:=.seq ([]:List Value).toArray } }:Shared).TypeIs (.ref d) "dict":=oS.dictOf.typeIs;show wpAny (model prog w) A.in1 (Builtin.List.listExtendWith (.ref s.heap.objs.size) (.ref d) (.ref s.heap.objs.size)) _ _ _;unfold Builtin.List.listExtendWith;refine aa7 (wpAny_typeOf hT1 ?_);have h1:Builtin.List.listSameRef (.ref s.heap.objs.size) (.ref d)=false:=by simp[Builtin.List.listSameRef,agw cU]
 have h2:(Value.type "dict" == Value.type "list")=false:=by decide
 have h3:(Value.type "dict" == Value.type "tuple")=false:=by decide
 simp only[h1,h2,h3,Bool.or_false,agG,if_false];refine aa7 (wpAny_pyIter_dict hd oS ?_);refine aa7 (afp ?_);have uc:=oS.push { cls:=.type "dict_keyiterator",data:=.fields #[.ref d,.int 0 0,.int ak.length 0,.int ep 0] };have IL:({ s with heap:=(s.heap.push { cls:=.type "list",data:=.seq ([]:List Value).toArray }).push { cls:=.type "dict_keyiterator",data:=.fields #[.ref d,.int 0 0,.int ak.length 0,.int ep 0] } }:Shared).TypeIs (.ref d) "dict":=uc.dictOf.typeIs;unfold Builtin.List.listLengthHint;refine aa7 (wpAny_specialOf IL afc ?_);generalize C7:("dict.__len__":String)=MZ
 (fail_if_success (clear C7 MZ))
 wp_delta
 rw[show splitId MZ=some ("dict","__len__") from by subst C7;decide +kernel];subst C7;refine aa7 (wpAny_isInstance (b:=true) IL (by rw[isSubtype_type];kernel_rfl) ?_);refine aa7 (wpAny_typeOf IL ?_);refine acD ?_;refine aa7 (wpAny_rule ?_);have hsz:(s.heap.push { cls:=.type "list",data:=.seq ([]:List Value).toArray }).objs.size=s.heap.objs.size+1:=agU ..;generalize xm:s.heap.push { cls:=.type "list",data:=.seq ([]:List Value).toArray }=h1 at *;have hS1:h1.get? s.heap.objs.size=some { cls:=.type "list",data:=.seq ([]:List Value).toArray }:=by rw[<- xm];exact ab3 _ rfl
 have Vx:∀b o,s.heap.get? b=some o->h1.get? b=some o:=λb o e=>by rw[<- xm];exact aaT _ e
 dsimp only;have hI2:(h1.push { cls:=.type "dict_keyiterator",data:=.fields #[.ref d,.int 0 0,.int ak.length 0,.int ep 0] }).get? h1.objs.size=some { cls:=.type "dict_keyiterator",data:=.fields #[.ref d,.int 0 0,.int ak.length 0,.int ep 0] }:=ab3 _ rfl;have Mq:(h1.push { cls:=.type "dict_keyiterator",data:=.fields #[.ref d,.int 0 0,.int ak.length 0,.int ep 0] }).get? s.heap.objs.size=some { cls:=.type "list",data:=.seq ([]:List Value).toArray }:=aaT _ hS1;have Tn:∀b o,s.heap.get? b=some o->(h1.push { cls:=.type "dict_keyiterator",data:=.fields #[.ref d,.int 0 0,.int ak.length 0,.int ep 0] }).get? b=some o:=λb o e=>aaT _ (Vx b o e)
 generalize hh2:h1.push { cls:=.type "dict_keyiterator",data:=.fields #[.ref d,.int 0 0,.int ak.length 0,.int ep 0] }=h2 at *;have KJ:s.heap.objs.size≠h1.objs.size:=by rw[hsz];exact acI (agP _)
 have RX:=agw cU;have ndI:d≠h1.objs.size:=by rw[hsz];exact acI (ahj cU)
 refine aa7 ?_;refine aa7 (ahe Mq rfl ?_);have LG:=agE (Obj.mapSeq (·.push Value.none)) Mq rfl;refine ahe LG rfl ?_;have ZX:=agE (Obj.mapSeq (·.pop)) LG rfl;have DS:∀b o,b≠s.heap.objs.size->h2.get? b=some o->((h2.update s.heap.objs.size (Obj.mapSeq (·.push Value.none))).update s.heap.objs.size (Obj.mapSeq (·.pop))).get? b=some o:=
  λb o hb e=>(aep _ _ (afr hb)).trans ((aep _ _ (afr hb)).trans e)
 have W:=(Walks.dictKeys (A:=A.in1) (knd:=knd) hh h1.objs.size d ndI ak ep).toS;refine acD ⟨agM F.plain_extend_loop _,codeAny_extend_loopS W hz s.heap.objs.size (by simp;exact⟨KJ,RX⟩) _ ak.length 0 _ _ _ rfl (aes _) ?_ ZX (ItemsOf.nil _) λs' abi c' A6 Ln To=>?_⟩
 .exact⟨⟨_,DS _ _ (afr KJ) hI2,rfl,rfl⟩,uc.at' λo e=>DS _ _ (afr RX) e⟩
 .show wpAny (model prog w) A (load s.heap.objs.size >>= _) _ _ s';refine aa7 (wpAny_load Ln ?_);refine acD (hQ s' abi (afk (abM Ln)) (λb o e=>?_) A6.gens A6.drawn A6.os To);have hb:=abM e;refine A6.heap b o ?_ (DS b o (acI hb) (Tn b o e));intro m;rcases abb.mp m with z|z
  .exact absurd hb (by rw[z];exact aeM _)
  .have z:=aa3.mp z;rw[hsz] at z;exact absurd hb (by rw[z];exact Nat.not_lt.mpr (ahi _))
theorem aa8{x:Value}{Q:Value->Shared->Prop}(hc:∀(Q':List Value->Shared->Prop),(∀vs s',(∃ns,IntsAre vs ns/\∀(out:Array Value) (eB:List Int),IntsAre out.toList eB->eB.Perm ns->eB.Pairwise (·<=·)->
    Q (.ref s'.heap.objs.size) { s' with heap:=sortedHeap (s'.heap.push (seqObj "list" vs.toArray 0)) s'.heap.objs.size vs out })/\vs.length<64->Q' vs s')->wpAny (model prog w) A.in1 (collect x) Q' E s):wpAny (model prog w) A (call (.builtin "sorted") [x]) Q E s:=by
 refine call_function_tree kind_sorted plain_sorted entry_sorted (args_sorted1 _) ?_;unfold Builtin.«sorted»;refine aa7 (acD ?_);refine aa7 (hc _ λvs s' ⟨⟨ns,hI,h⟩,l7⟩=>?_);refine aa7 (wpAny_newList ?_);have Cg:(s'.heap.push (seqObj "list" vs.toArray 0)).get? s'.heap.objs.size=some (seqObj "list" vs.toArray 0):=ab3 _ rfl;refine aa7 (afp (wpAny_call_entry slot_list_sort ⟨_,Cg,rfl⟩ entry_list_sort (list_sort_tree Cg hI l7 λout eB a1 a2 a3=>⟨_,rfl,?_⟩) (args_list_sort _)));exact acD (h out eB a1 a2 a3)
end
section
variable{X:Cx}
theorem Qt:∀{ks:List Int}{ak:List (Key×Value)}{vs:List Value},ak.map (·.1)=ks.map Sum.inl->vs.length=ak.length->(∀(i:Nat) v,vs[i]? = some v->∃k x,ak[i]? = some (k,x)/\(gQ P w).is k v=true)->IntsAre vs ks
 |[],[],vs,_,hl,_=>by cases vs with
  |nil=>exact .nil
  |cons _ _=>simp at hl
 |[],_::_,_,e,_,_=>by simp at e
 |_::_,[],_,e,_,_=>by simp at e
 |k::ks,(q,x)::ak,vs,e,hl,h=>by
  simp only[aas,afB] at e;obtain⟨rfl,e⟩:=e;cases vs with
  |nil=>simp at hl
  |cons v vs=>
   obtain⟨k',x',e0,hk⟩:=h 0 v rfl;have e0':=ab1 e0;cases e0';rcases m6 (show sI (Sum.inl k) v=true from hk) with⟨i,t,e1,e2⟩|⟨y,t,e1,e2⟩
   .cases e1;subst e2;exact .cons k t (Qt e (by simpa using hl) λi v hv=>h (i+1) v (by simpa using hv))
   .cases e1
def K8(K:PySem.W.Frag):List V->Hp->VK->Prop:=λxs H Q=>∃(p:Addr) (ks:List Int),xs=[.ref p]/\ks.length<64/\((∃ak:List (Key×V),H p=some (.dK ak)/\ak.map (·.1)=ks.map Sum.inl)\/bZ K H p (ks.map V.int))/\
 ∀(l:Addr) (nW:List Int),H l=none->nW.Perm ks->nW.Pairwise (·<=·)->Q (.ref l) (upd H l (.lst (nW.map V.int)))
theorem ZH(hc:X.calm=true):fX X (.builtin "sorted") (K8 X.K):=by
 exists 45;obtain⟨p,ks,rfl,l7,Jx,q⟩:=h;exists 81;cases ru;have fin:∀(vs:List Value) (s':Shared),s.heap.objs.size<=s'.heap.objs.size->(∀b o,s.heap.get? b=some o->s'.heap.get? b=some o)->s'.gens=s.gens->s'.drawn=s.drawn->s'.os=s.os->∀(out:Array Value) (eB:List Int),IntsAre out.toList eB->eB.Perm ks->eB.Pairwise (·<=·)->
   EP X af σ Q (.ref s'.heap.objs.size) { s' with heap:=sortedHeap (s'.heap.push (seqObj "list" vs.toArray 0)) s'.heap.objs.size vs out }:=by
  intro vs s' hle hk e1 e2 e3 out eB a1 a2 a3;obtain⟨h',g',d',t',o'⟩:=s';dsimp only at e1 e2 e3 hk hle;subst e1 e2 e3;obtain⟨e,he⟩:=sortedHeap_at (show(h'.push (seqObj "list" vs.toArray 0)).get? h'.objs.size=some (seqObj "list" vs.toArray 0) from ab3 _ rfl);have hlen:eB.length<64:=by rw[a2.length_eq];exact l7
  refine⟨.ref h'.objs.size,upd H h'.objs.size (.lst (eB.map V.int)),I.laid (λb o eb=>?_) hle ?_,rfl,q _ eB (I.aE.fresh hle) a2 a3⟩
  .have hb:b<h'.objs.size:=abM (hk b o eb);rw[sortedHeap_old (acI hb) (by rw[agU];exact ahj hb)];exact aaT _ (hk b o eb)
  .exact⟨by rw[List.length_map];exact afk (wg (by omega)),out.toList,e,JA a1,by rw[he]⟩
 have hh:X.A.handled=none:=I.ok.hd hc;refine aa8 λQ' KL=>?_
 rcases Jx with⟨ak,hp,hk⟩|hp
 .obtain⟨hz,hd,vs,rel,dd⟩:=LR I.aE hp;refine Tq hh hd dd (by rw[<- rel.length];exact hz) λs' acc hle kp e1 e2 e3 it=>KL _ s' ⟨⟨ks,?_,λout eB a1 a2 a3=>fin _ s' hle kp e1 e2 e3 out eB a1 a2 a3⟩,?_⟩
  .refine Qt (by rw[<- rel.keys];exact hk) (by rw[aeO];exact it.1) λi v hv=>it.2 i v (by rw[<- Array.getElem?_toList];exact hv)
  .rw[aeO,it.1,<- rel.length];have:=congrArg List.length hk;rw[List.length_map,List.length_map] at this;omega
 .obtain⟨au,rv,pl,hz⟩:=I.list hp;have hi:=intsAre_of rv;have k1:s.heap.objs.size<=((s.heap.push (seqObj "list" #[] 0)).update s.heap.objs.size (Obj.mapSeq (·++au.toArray))).objs.size:=by
   rw[Heap.size_update,agU];exact ahi _
  have k2:∀b o,s.heap.get? b=some o->((s.heap.push (seqObj "list" #[] 0)).update s.heap.objs.size (Obj.mapSeq (·++au.toArray))).get? b=some o:=λb o e=>
   (aep _ _ (agw (abM e))).trans (aaT _ e)
  refine collect_list pl.isList (KL _ _ ⟨⟨ks,hi,λout eB a1 a2 a3=>fin au { s with heap:=(s.heap.push (seqObj "list" #[] 0)).update s.heap.objs.size (Obj.mapSeq (·++au.toArray)) } k1 k2 rfl rfl rfl out eB a1 a2 a3⟩,?_⟩) (by rw[<- rv.length];exact hz);rw[<- rv.length,List.length_map];exact l7
end
theorem acn(a d:Value):argsOk "min" ⟨[a],[("default",d)]⟩:=by unfold argsOk;kernel_rfl
theorem AV:(toString "min"++toString ".loop":String)="min.loop":=by decide
theorem U5(W:Walks prog w A.in1 it fT jB n P T)(bt:Nat->Nat->Bool)(Dw:CmpOf prog w A.in1 .Lt P bt)(kw:List (Str×Value))(B:Addr)(hB:B∉fT):
  ∀(k j) (s) (vb) (c),n-(j+1)=k->j+1<=n->T (j+1) s.heap->P (argBest bt j) vb->s.heap.get? B=some { cls:=.type "list",dict:=none,data:=.seq #[vb,vb] c,slots:=#[] }->
   (∀v h' tk,P (argBest bt (n-1)) v->(∀b o,b∉jB->b≠B->s.heap.get? b=some o->h'.get? b=some o)->R (.ok (.ret v)) { s with heap:=h',toks:=tk })->
   codeAny (model prog w) A (.builtin "min.loop" ⟨[.ref it,.none,.ref B],kw⟩) R s:=by
 have nB:B∉jB:=λm=>hB (W.sub _ m)
 intro k
 induction k with
 |zero=>
  intro j s vb c e1 e2 st pb gB fin;have en:j+1=n:=by omega
  refine agm F.entry_min_loop ?_;rw[afK agD _];refine aa7 (wpAny_seqItems gB rfl ?_);refine aa7 (ag4 (W.done s _ _ (en ▸ st) λh1 t1 kp=>?_));have qO:=kp B _ nB gB;refine aa7 (ahe qO rfl (aa7 (wpAny_letGo (acD ?_))));exact fin vb _ t1 (by rw[<- en];exact pb) λb o m1 m2 e=>(aep _ _ (afr m2)).trans (kp b o m1 e)
 |succ k ih=>
  intro j s vb c e1 e2 st pb gB fin;have lt:j+1<n:=by omega
  refine agm F.entry_min_loop ?_;rw[afK agD _];refine aa7 (wpAny_seqItems gB rfl ?_);refine aa7 (ag4 (W.item (j+1) s _ _ lt st λv h1 t1 pv u9 kp=>?_));have qO:=kp B _ nB gB;show wpAny (model prog w) A.in1 (tryCatch (holding [v,v] (richCompare .Lt v vb >>= _)) _ >>= _) _ _ _;refine aa7 (ag4 (afp (aa7 (Dw (j+1) (argBest bt j) v vb _ _ _ pv pb ?_))));refine aa7 (afp (afg (aa7 (wpAny_letGo (acD ?_)))));cases hb:bt (j+1) (argBest bt j) with
  |true=>
   simp only[if_true];refine aa7 (ahe qO rfl (aa7 (wpAny_letGo ?_)));rw[AV];refine acD ⟨agM agD _,ih (j + 1) _ v _ (by omega) lt (W.frame _ _ _ u9 λb m o e=>(aep _ _ (λz:B=b=>hB (by rw[z];exact m))).trans e)
    (by simp only[argBest,hb,if_true];exact pv) (agE _ qO rfl) λv2 h2 t2 p2 k2=>?_⟩
   exact fin v2 h2 t2 p2 λb o m1 m2 e=>k2 b o m1 m2 ((aep _ _ (afr m2)).trans (kp b o m1 e))
  |false=>
   simp only[agG,if_false];refine aa7 (wpAny_letGo ?_);rw[AV];refine acD ⟨agM agD _,ih (j+1) _ vb c (by omega) lt u9 (by simp only[argBest,hb,agG,if_false];exact pb) qO λv2 h2 t2 p2 k2=>?_⟩;exact fin v2 h2 t2 p2 λb o m1 m2 e=>k2 b o m1 m2 (kp b o m1 e)
theorem Xl(W:Walks prog w A.in1 it fT jB n P T)(bt:Nat->Nat->Bool)(Dw:CmpOf prog w A.in1 .Lt P bt)(key:Str)(dv:Value)(B:Addr)(hB:B∉fT){s:Shared}{c:Nat}(st:T 0 s.heap)
  (gB:s.heap.get? B=some { cls:=.type "list",dict:=none,data:=.seq #[] c,slots:=#[] })
  (fin:∀v h' tk,(n=0/\v=dv\/0<n/\P (argBest bt (n-1)) v)->(∀b o,b∉jB->b≠B->s.heap.get? b=some o->h'.get? b=some o)->R (.ok (.ret v)) { s with heap:=h',toks:=tk }) :
  codeAny (model prog w) A (.builtin "min.loop" ⟨[.ref it,.none,.ref B],[(key,dv)]⟩) R s:=by
 have nB:B∉jB:=λm=>hB (W.sub _ m)
 refine agm F.entry_min_loop ?_;rw[afK agD _];refine aa7 (wpAny_seqItems gB rfl ?_)
 by_cases hn:0<n
 .refine aa7 (ag4 (W.item 0 s _ _ hn st λv h1 t1 pv u9 kp=>?_));have qO:=kp B _ nB gB;show wpAny (model prog w) A.in1 (updateSeq B (λ_=>#[v,v]) >>= _) _ _ _;refine aa7 (ahe qO rfl ?_);rw[AV];refine acD ⟨agM agD _,U5 W bt Dw _ B hB _ 0 _ v _ rfl hn (W.frame _ _ _ u9 λb m o e=>(aep _ _ (λz:B=b=>hB (by rw[z];exact m))).trans e) pv (agE _ qO rfl) λv2 h2 t2 p2 k2=>?_⟩;exact fin v2 h2 t2 (.inr ⟨hn,p2⟩) λb o m1 m2 e=>k2 b o m1 m2 ((aep _ _ (afr m2)).trans (kp b o m1 e))
 .have en:n=0:=by lia
  refine aa7 (ag4 (W.done s _ _ (en ▸ st) λh1 t1 kp=>?_));exact aa7 (wpAny_rule (acD (fin dv h1 t1 (.inl ⟨en,rfl⟩) λb o m1 _ e=>kp b o m1 e)))
theorem abl{id:String}{b:Builtin}{kw:List (Str×Value)}(hk:builtinKind id=none)(hp:plainId id=true)(hb:entryFor table id=some b)(ha:argsOk id ⟨args,kw⟩)
  (hc:wpAny (model prog w) A.in1 (b ⟨args,kw⟩) (λfin s'=>match fin with
   |.done f=>(match(Except.ok f:Result) with|.ok (.ret v)=>Q v s'|.ok _=>False|.error e=>E e s')
   |.again c=>c.quiet=true/\codeAny (model prog w) A c (λr s'=>match r with|.ok (.ret v)=>Q v s'|.ok _=>False|.error e=>E e s') s') E s):wpAny (model prog w) A (call (.builtin id) args kw) Q E s:=by
 refine wpAny_call (codeAny_call_builtin hp hb ?_);simp only[checkBuiltinCall,hk];cases Y5:Manifest.signature? id with
 |none=>exact acD hc
 |some sig=>
  have h2:Bind.checkArgs id sig ⟨args,kw⟩=pure ():=by simpa only[argsOk,Y5] using ha
  simp only[h2];exact acD hc
theorem Ky:∀{vs} {ns} {i} {v},IntsAre vs ns->vs[i]? = some v->∃t,v=Value.int (ns.getD i 0) t
 |_,_,_,_,.nil,e=>by simp at e
 |_,_,0,_,.cons n t h,e=>by
  have e':=ab1 e;subst e';exact⟨t,rfl⟩
 |_,_,i+1,v,.cons n t h,e=>by
  obtain⟨u,eu⟩:=Ky h (by simpa using e);exact⟨u,by simpa using eu⟩
theorem afL{ns:List Int}(h:i<ns.length):ns.getD i 0∈ns:=by
 rw[adu,abp h];exact List.getElem_mem h
theorem Yn{l:Addr}{vs:List Value}{ns:List Int}{dv:Value}{Q:Value->Shared->Prop}(hh:A.handled=none)(hl:s.heap.IsList l vs.toArray)(hi:IntsAre vs ns)
  (fin:∀v h' tk,(ns=[]/\v=dv\/∃m t,v=.int m t/\m∈ns/\∀x∈ns,m<=x)->(∀b o,s.heap.get? b=some o->h'.get? b=some o)->Q v { s with heap:=h',toks:=tk }) :
  wpAny (model prog w) A (call (.builtin "min") [.ref l] [("default",dv)]) Q E s:=by
 refine abl F.kind_min F.plain_min F.entry_min (acn _ _) ?_;refine aa7 (wpAny_of_eq (show Builtin.Builtins.bindParams "min" ["key","default"] 0 ⟨[],[("default",dv)]⟩=pure [none,some dv] from rfl) ?_);refine aa7 (acD (aa7 (wpAny_pyIter_list hl ?_)));refine aa7 (agY ?_);rw[AV];have O0:l<s.heap.objs.size:=let⟨_,ho,_⟩:=hl;abM ho
 have hsz:(s.heap.push { cls:=.type "list_iterator",data:=.fields #[.ref l,.int 0 0] }).objs.size=s.heap.objs.size+1:=agU ..;have hv:∀(i) (v),vs.toArray[i]? = some v->∃t,v=Value.int (ns.getD i 0) t:=λi v e=>Ky hi (by simpa using e)
 have hlen:=hi.length;generalize xm:s.heap.push { cls:=.type "list_iterator",data:=.fields #[.ref l,.int 0 0] }=h1 at *;have g1:h1.get? s.heap.objs.size=some { cls:=.type "list_iterator",data:=.fields #[.ref l,.int 0 0] }:=by rw[<- xm];exact ab3 _ rfl
 have old:∀b o,s.heap.get? b=some o->h1.get? b=some o:=λb o e=>by rw[<- xm];exact aaT _ e
 have nl:=acI O0;have W:=Walks.list (prog:=prog) (w:=w) (A:=A.in1.in1) hh s.heap.objs.size l nl vs.toArray;have hB:h1.objs.size∉[s.heap.objs.size,l]:=by
  intro m;rcases abb.mp m with z|z
  .rw[hsz] at z;exact absurd z (agw (agP _))
  .have z:=aa3.mp z;rw[hsz] at z;exact absurd z (agw (ahj O0))
 refine acD ⟨agM agD _,Xl W.of_in1 (λi j=>decide (ns.getD i 0<ns.getD j 0)) (CmpOf.ints_lt (λi=>ns.getD i 0) hv) _ dv h1.objs.size hB ?_ (ab3 _ rfl) λv h' tk zP kp=>?_⟩
 .exact⟨⟨_,aaT _ g1,rfl,rfl⟩,hl.at λo e=>aaT _ (old l o e)⟩
 .refine fin v h' tk ?_ λb o e=>kp b o ?_ ?_ (aaT _ (old b o e))
  .have cJ:vs.toArray.size=ns.length:=by rw[ab2,hlen]
   rw[cJ] at zP;rcases zP with⟨h0,e⟩|⟨h0,pv⟩
   .exact .inl ⟨agS h0,e⟩
   .obtain⟨t,e⟩:=hv _ v pv;obtain⟨a1,a2⟩:=argBest_lt (λi=>ns.getD i 0) (ns.length-1);refine .inr ⟨_,t,e,afL (by omega),λx hx=>?_⟩;obtain⟨j,hj,rfl⟩:=List.getElem_of_mem hx;have:=a2 j (by omega);rw[show ns[j]=ns.getD j 0 by rw[adu,abp hj];rfl];exact this
  .intro m;exact absurd (abM e) (by rw[aa3.mp m];exact aeM _)
  .intro z;exact absurd (abM e) (by rw[z,hsz];exact Nat.not_lt.mpr (ahi _))
def WX(K:PySem.W.Frag)(ta td:TE):TE:=λσ H Q=>ta σ H λx H1=>td σ H1 λy H2=>∃(l:Addr) (ns:List Int),x=.ref l/\bZ K H2 l (ns.map V.int)/\((ns=[]/\Q y H2)\/ns≠[]/\∀m,m∈ns->(∀n∈ns,m<=n)->Q (.int m) H2)
theorem VX(hc:X.calm=true)(hm:X.mg "min"=none)(ha:PE X a ta)(hb:PE X b td)(hg:Gl X "min":=by rfl)(hs:Y2 X a:=by rfl)
  (h1:backTo pos (starEach [a] X.env)=(false,eval a X.env)::backTo pos (starEach [] X.env):=by rfl) (h2:(backTo pos (starEach [a] X.env)).any (·.1)=false:=by rfl)
  (h3:(backToKw pos (keywordEach [⟨some "default",b,kp⟩] X.env)).all (·.1.isSome)=true:=by rfl) (h4:(backToKw pos (keywordEach [⟨some "default",b,kp⟩] X.env)).any (·.1.isNone)=false:=by rfl)
  (h5:(backToKw pos (keywordEach [⟨some "default",b,kp⟩] X.env)).filterMap (·.1)=[("default":Str)]:=by rfl) :
  PE X (.Call (.Name "min" p) [a] [⟨some "default",b,kp⟩] pos) (WX X.K ta td):=by
 exists 47;refine afv (qj I hg hm (show bootBuiltins "min"=some (.builtin "min") by decide +kernel) ?_ (by decide) (by decide));refine callWith_kw ?_ h1 h2 h3 h4;rw[h5];refine aM (cP ha eT hs pos af s σ H (λvs H1=>match vs with|[x]=>td σ H1 λy H2=>∃(l:Addr) (ns:List Int),x=.ref l/\bZ X.K H2 l (ns.map V.int)/\((ns=[]/\Q y H2)\/ns≠[]/\∀m,m∈ns->(∀n∈ns,m<=n)->Q (.int m) H2)|_=>False) I h) λus s1 ⟨vs,H1,I1,rv,q1⟩=>?_
 rcases vs with _|⟨x,_|⟨x2,r2⟩⟩
 .exact q1.elim
 .obtain⟨u,rfl,ru⟩:=vals1 rv;refine kws_cons (aM (hb af s1 σ H1 _ I1 q1) λdv s2 ⟨y,H2,I2,ry,l,ns,ex,hq,q2⟩=>kws_nil ?_);subst ex;cases ru;obtain⟨au,ri,pl,hz⟩:=I2.list hq;refine Yn (I2.ok.hd hc) pl.isList (intsAre_of ri) λv h' tk zP kp=>?_
  rcases zP with⟨en,ev⟩|⟨m,t,ev,oS,uc⟩
  .subst ev;rcases q2 with⟨_,q2⟩|⟨ne,_⟩
   .exact⟨y,H2,I2.kept kp,ry,q2⟩
   .exact absurd en ne
  .subst ev;rcases q2 with⟨en,_⟩|⟨_,q2⟩
   .rw[en] at oS;cases oS
   .exact⟨.int m,H2,I2.kept kp,⟨t,rfl⟩,q2 m oS uc⟩
 .exact q1.elim
end L2
namespace PySem
theorem abo:typeLookup (.type "list") "keys"=pure none:=by rw[typeLookup_type,builtinLookup_eq_fast];kernel_rfl
theorem XJ:typeLookup (.type "tuple") "keys"=pure none:=by rw[typeLookup_type,builtinLookup_eq_fast];kernel_rfl
theorem Zq(hx:s.heap.get? a=some { cls:=.type "list",dict:=none,data:=.seq xs k,slots:=sl })(hA:A.handled=none)
  (h:∀h' tk,(∀b o,s.heap.get? b=some o->h'.get? b=some o)->Q none { s with heap:=h',toks:=tk }):wpAny (model prog w) A (getAttr? (.ref a) "keys") Q E s:=by
 obtain⟨hp,g,d,tk,os⟩:=s;have hT:∀yD,(⟨hp,g,d,yD,os⟩:Shared).TypeIs (.ref a) "list":=λ_=>⟨_,hx,rfl⟩
 have f1:=sub_AttributeError;have f3:=F.slot_list_getattribute.lookup;have f4:=F.slot_list_getattribute.bind (.ref a);have f5:=am_list_getattr_none;unfold getAttr? getAttrBy? getAttrBy
 repeat (any_goals (first|assumption|exact hT _|((with_reducible show wpAny _ _ (call (Value.builtin "list.__getattribute__") _ _) _ _ _);refine call_meets F.slot_list_getattribute (hT _) am_entry_list_getattribute (F.args_list_getattribute_2 _ _) (meets_getattribute_miss_list a xs k sl "keys" _ abo (by decide +kernel)) ⟨hx,hA,λh' yD e jC=>?_⟩)|wp_step))
 obtain⟨t',u',he⟩:=jC.there;unfold getattributeRaised
 repeat (any_goals (first|assumption|wp_step))
 all_goals exact h _ _ jC.keeps
theorem ZZ(hx:s.heap.get? a=some { cls:=.type "tuple",dict:=none,data:=.seq xs k,slots:=sl })(hA:A.handled=none)
  (h:∀h' tk,(∀b o,s.heap.get? b=some o->h'.get? b=some o)->Q none { s with heap:=h',toks:=tk }):wpAny (model prog w) A (getAttr? (.ref a) "keys") Q E s:=by
 obtain⟨hp,g,d,tk,os⟩:=s;have hT:∀yD,(⟨hp,g,d,yD,os⟩:Shared).TypeIs (.ref a) "tuple":=λ_=>⟨_,hx,rfl⟩
 have f1:=sub_AttributeError;have f3:=F.slot_tuple_getattribute.lookup;have f4:=F.slot_tuple_getattribute.bind (.ref a);have f5:=am_tuple_getattr_none;unfold getAttr? getAttrBy? getAttrBy
 repeat (any_goals (first|assumption|exact hT _|((with_reducible show wpAny _ _ (call (Value.builtin "tuple.__getattribute__") _ _) _ _ _);refine call_meets F.slot_tuple_getattribute (hT _) am_entry_tuple_getattribute (F.args_tuple_getattribute_2 _ _) (meets_getattribute_miss_tuple a xs k sl "keys" _ XJ (by decide +kernel)) ⟨hx,hA,λh' yD e jC=>?_⟩)|wp_step))
 obtain⟨t',u',he⟩:=jC.there;unfold getattributeRaised
 repeat (any_goals (first|assumption|wp_step))
 all_goals exact h _ _ jC.keeps
end PySem
namespace L2
open PySem PySem.Spec PyProof.Rows
theorem A0:plainId "dict.update.loop"=true:=by decide +kernel
theorem Oq:entryFor table "dict.update.loop"=some Builtin.«dict.update.loop»:=entryFor_of_fast (by kernel_rfl)
def pairAt{prog:Program}{w:World}{κ:Type}[DecidableEq κ](knd:KeyKind prog w κ)(h:Heap)(no:List Addr)(v:Value)(p:κ×Value):Prop:=∃a key,v=.ref a/\a∉no/\IsTup h a #[key,p.2]/\knd.is p.1 key=true
section
variable[DecidableEq κ]{knd:KeyKind prog w κ}
theorem aam(W:Walks prog w A.in1 it fT jB n P T)(hd:d∉fT)(h0:Heap)(ps:List (κ×Value))(hn:ps.length=n)(hP:∀i v,P i v->∃p,ps[i]? = some p/\pairAt knd h0 (d::jB) v p)(res:Value):
  ∀(k i) (s) (m) (Ir),n-i=k->i<=n->T i s.heap->s.heap.DictOf knd d m->m.length+(n-i)<=sizeLine->(∀b o,b∉d::jB->h0.get? b=some o->s.heap.get? b=some o)->
   (∀h' tk,h'.DictOf knd d ((ps.drop i).foldl (λm p=>stored m p.1 p.2) m)->(∀b o,b∉d::jB->h0.get? b=some o->h'.get? b=some o)->R (.ok (.ret res)) { s with heap:=h',toks:=tk })->
   codeAny (model prog w) A (.builtin "dict.update.loop" ⟨[.ref d,.ref it,.int i Ir,res],[]⟩) R s:=by
 have nd:d∉jB:=λm=>hd (W.sub _ m)
 intro k
 induction k with
 |zero=>
  intro i s m Ir e1 e2 st dm hz kp fin;have en:i=n:=by lia
  subst en;refine agm Oq ?_;rw[afK A0 _];refine aa7 (W.done s _ _ st λh1 t1 k1=>?_);refine aa7 (acD (acD (fin h1 t1 ?_ λb o mb e=>k1 b o (λz=>mb (aaa _ z)) (kp b o mb e))));rw[List.drop_eq_nil_of_le (by lia)];obtain⟨o,es,ep,ho,r⟩:=dm;exact⟨o,es,ep,k1 d o nd ho,r⟩
 |succ k ih=>
  intro i s m Ir e1 e2 st dm hz kp fin;have lt:i<n:=by lia
  refine agm Oq ?_;rw[afK A0 _];refine aa7 (W.item i s _ _ lt st λv h1 t1 pv u9 k1=>?_);obtain⟨p,ep,a,key,rfl,na,SI,yJ⟩:=hP i v pv;have dm1:h1.DictOf knd d m:=by
   obtain⟨o,es,ep,ho,r⟩:=dm;exact⟨o,es,ep,k1 d o nd ho,r⟩
  obtain⟨oa,hoa,ZP,na',V2⟩:=SI;have ga:=k1 a oa (λz=>na (aaa _ z)) (kp a oa na hoa);refine aa7 (afp ?_);refine aa7 (ag4 ?_);unfold Builtin.Dict.pairItems;refine aa7 (wpAny_typeOf ⟨oa,ga,ZP⟩ ?_);rw[if_pos (by decide)];refine aa7 (wpAny_seqItems ga V2 (acD ?_));refine afp (wpAny_dictSet_pairs yJ dm1 (λh2 UL sb=>?_) (by lia));have Qg:∀b o,b≠d->h1.get? b=some o->h2.get? b=some o:=λb o hb e=>(sb.2 b hb).trans e
  have sQ:=W.frame _ _ _ u9 λb mb o e=>Qg b o (λz=>hd (by rw[<- z];exact mb)) e
  have tP:(stored m p.1 p.2).length<=m.length+1:=by
   unfold stored
   split
   .rw[List.length_map];exact ahi _
   .rw[abN];exact abT _
  refine acD ⟨agM A0 _,?_⟩;refine ih (i+1) _ (stored m p.1 p.2) 0 (by lia) lt sQ UL (by lia) (λb o mb e=>Qg b o (λz=>mb (by rw[z];exact aar)) (k1 b o (λz=>mb (aaa _ z)) (kp b o mb e))) λh3 t3 Ij k3=>?_
  refine fin h3 t3 ?_ k3;have hi:i<ps.length:=by lia
  have yH:ps[i]=p:=by rw[abp hi] at ep;exact ab1 ep
  rw[ag5 hi,aeF,yH];exact Ij
theorem Si(ps:List (κ×Value))(hz:ps.length<=sizeLine)(T0:String)(hT0:(Value.type T0 != Value.type "dict")=true)
  (Gf:∀o,({ s with heap:=s.heap.push o }:Shared).TypeIs x T0)
  (hk:∀(o) (Q') (E'),(∀h' tk,(∀b ob,(s.heap.push o).get? b=some ob->h'.get? b=some ob)->Q' none { s with heap:=h',toks:=tk })->wpAny (model prog w) A.in1.in1 (getAttr? x "keys") Q' E' { s with heap:=s.heap.push o })
  (hi:∀(s2) (Q') (E'),(∀b ob,s.heap.get? b=some ob->s2.heap.get? b=some ob)->(∃o,s2.heap.get? s.heap.objs.size=some o)->
   (∀I fT jB n P T h3,Walks prog w A.in1.in1 I fT jB n P T->T 0 h3->ps.length=n->s.heap.objs.size∉fT->(∀b ob,s2.heap.get? b=some ob->h3.get? b=some ob)->(∀b∈jB,s.heap.get? b=none)->(∀i v,P i v->∃p,ps[i]? = some p/\pairAt knd s.heap (s.heap.objs.size::jB) v p)->Q' (.ref I) { s2 with heap:=h3 })->
   wpAny (model prog w) A.in1.in1 (pyIter x) Q' E' s2)
  (h:∀h' tk,h'.DictOf knd s.heap.objs.size (ps.foldl (λm p=>stored m p.1 p.2) [])->(∀b o,s.heap.get? b=some o->h'.get? b=some o)->Q (.ref s.heap.objs.size) { s with heap:=h',toks:=tk }) :
  wpAny (model prog w) A (call (.type "dict") [x]) Q E s:=by
 refine callType_codes (Q₁:=λobj bO=>obj=.ref s.heap.objs.size/\bO={ s with heap:=s.heap.push { cls:=.type "dict",data:=.dict #[] } }) F.kt_called_dict (F.kt_typeCall_dict_1 _) F.entry_dict_init (kt_code_dict_new _ ⟨rfl,rfl⟩) ?_
 rintro obj bO ⟨rfl,rfl⟩
 have Kf:(s.heap.push { cls:=.type "dict",data:=.dict #[] }).DictOf knd s.heap.objs.size []:=Heap.DictOf.new s.heap;refine⟨Kf.typeIs,F.args_dict_init_2 _ _,?_⟩;unfold Builtin.«dict.__init__»;refine aa7 ?_;unfold Builtin.Dict.selfAndRest;refine aa7 (wpAny_notOrdered_dict Kf.typeIs ?_);refine acD ?_;show wpAny (model prog w) _ (Builtin.Dict.updateFrom "dict.__init__" s.heap.objs.size x [] .none) _ _ _;unfold Builtin.Dict.updateFrom;refine aa7 (wpAny_typeOf (Gf _) ?_);rw[if_pos hT0];refine aa7 (hk _ _ _ λh1 t1 k1=>?_);refine aa7 (wpAny_rule (aa7 ?_));have o1:∀b ob,s.heap.get? b=some ob->h1.get? b=some ob:=λb ob e=>k1 b ob (aaT _ e)
 refine hi { s with heap:=h1,toks:=t1 } _ _ o1 ⟨_,k1 _ _ (ab3 _ rfl)⟩ (λI fT jB n P T h3 W st hn hd k3 hw hP=>?_);have Ij:h3.DictOf knd s.heap.objs.size []:=by
  obtain⟨o,es,ep,ho,r⟩:=Kf;exact⟨o,es,ep,k3 _ o (k1 _ o ho),r⟩
 refine acD ⟨agM A0 _,aam W hd s.heap ps hn hP .none n 0 _ [] 0 rfl (aes _) st Ij (by rw[List.length_nil];lia) (λb o _ e=>k3 b o (o1 b o e)) λh4 t4 dm4 k4=>?_⟩;refine⟨rfl,h h4 t4 (by simpa using dm4) λb o e=>k4 b o (λm=>?_) e⟩;rcases abb.mp m with z|z
 .exact absurd (abM e) (by rw[z];exact aeM _)
 .rw[hw b z] at e;cases e
end
theorem QX[DecidableEq κ]:∀{ps} {qs} {m}{r:List (κ×Value)},KV ps qs->KV m r->KV (ps.foldl (λm p=>putK m p.1 p.2) m) (qs.foldl (λm p=>stored m p.1 p.2) r)
 |_,_,_,_,.nil,h=>h
 |_,_,_,_,.cons (a:=p) e t,h=>by
  rw[aeF,aeF];refine QX t ?_;rw[<- e.1];exact h.put p.1 e.2
def IK(K:PySem.W.Frag):List V->Hp->VK->Prop:=λxs H Q=>∃(p:Addr) (ys:List V) (ps:List (Key×V)),xs=[.ref p]/\(bZ K H p ys\/ck K H p ys)/\Paired (λy (q:Key×V)=>∃a,y=.ref a/\ck K H a [kV q.1,q.2]) ys ps/\
 ∀l,H l=none->Q (.ref l) (upd H l (.dK (ps.foldl (λm q=>putK m q.1 q.2) [])))
theorem Ik(I:Inv X af σ H s):∀{ys} {ps} {au},Paired (λy (q:Key×V)=>∃a,y=.ref a/\ck X.K H a [kV q.1,q.2]) ys ps->aU ys au->
  ∃qs:List (Key×Value),KV ps qs/\∀(i:Nat) (v),au[i]? = some v->∃q,qs[i]? = some q/\∃a key,v=.ref a/\IsTup s.heap a #[key,q.2]/\(gQ X.prog X.w).is q.1 key=true
 |_,_,_,.nil,.nil=>⟨[],.nil,λi v e=>by simp at e⟩
 |_,_,_,.cons (b:=q) ⟨a,ey,hr⟩ t,.cons (b:=u) r rs=>by
  obtain⟨qs,h1,h2⟩:=Ik I t rs;subst ey;cases r;obtain⟨us,ru,pt,_⟩:=I.tuple hr;obtain⟨key,x,rfl,rk,rx⟩:=vals2 ru;refine⟨(q.1,x)::qs,.cons ⟨rfl,rx⟩ h1,λi v e=>?_⟩;cases i with
  |zero=>
   have e':=ab1 e;subst e';exact⟨_,rfl,a,key,rfl,pt,sD rk⟩
  |succ i=>
   obtain⟨q',e1,e2⟩:=h2 i v (by simpa using e);exact⟨q',by simpa using e1,e2⟩
theorem SN(hc:X.calm=true):fX X (.type "dict") (IK X.K):=by
 exists 45;obtain⟨p,ys,ps,rfl,Jx,pJ,q⟩:=h;exists 81;cases ru;have hh:=I.ok.hd hc;have big:=I.big;have fin:∀(au:List Value) (qs:List (Key×Value)),KV ps qs->ys.length<=sizeLine->∀h' tk,h'.DictOf (gQ X.prog X.w) s.heap.objs.size (qs.foldl (λm p=>stored m p.1 p.2) [])->(∀b o,s.heap.get? b=some o->h'.get? b=some o)->
   EP X af σ Q (.ref s.heap.objs.size) { s with heap:=h',toks:=tk }:=by
  intro au qs pB hz h' tk dm kp;have rel:=QX pB .nil;have mh:∀(l:List (Key×V)) (m),(l.foldl (λm q=>putK m q.1 q.2) m).length<=m.length+l.length:=by
   intro l
   induction l with
   |nil=>intro m;exact abT _
   |cons a l ih=>
    intro m;rw[aeF];have h1:=ih (putK m a.1 a.2);have h2:=G2 m a.1 a.2;rw[acf]
    lia
  have hl:=(Paired.length pJ).symm;refine⟨.ref s.heap.objs.size,_,I.laid kp (abT _) (Fj ?_ (ado.mpr (afr (acI big))) rel dm),rfl,q _ (I.aE.fresh (abT _))⟩;have:=mh ps [];rw[List.length_nil] at this
  lia
 have A9:∀{qs},KV ps qs->qs.length=ys.length:=λh=>by rw[<- h.length];exact(Paired.length pJ).symm
 have pY:∀{s2:Shared},(∃o,s2.heap.get? s.heap.objs.size=some o)->s.heap.objs.size<s2.heap.objs.size:=λ⟨_,e⟩=>abM e
 rcases Jx with hq|hq
 .obtain⟨au,rv,pl,hz⟩:=I.list hq;obtain⟨qs,pB,u_⟩:=Ik I pJ rv;obtain⟨o,n,ho,kZ,wU,sV⟩:=pl;have hp:=abM ho;refine Si qs (by rw[A9 pB];exact hz) "list" (by decide) (λob=>⟨o,aaT _ ho,kZ⟩) (λob Q' E' k=>?_) (λs2 Q' E' o2 hS k=>?_) (λh' tk dm kp=>fin au qs pB hz h' tk dm kp)
  .obtain⟨c0,d0,ZS,sl0⟩:=o;dsimp only at kZ wU sV;subst kZ wU sV;exact Zq (aaT _ ho) hh λh1 t1 kp=>k h1 t1 kp
  .have tP:s2.heap.IsList p au.toArray:=⟨o,o2 p o ho,kZ,n,sV⟩
   refine wpAny_pyIter_list tP (k s2.heap.objs.size [s2.heap.objs.size,p] [s2.heap.objs.size] _ _ _ _ (Walks.list (A:=X.A.in1.in1) hh s2.heap.objs.size p (acI (Nat.lt_trans hp (pY hS))) au.toArray) ⟨⟨_,ab3 _ rfl,rfl,rfl⟩,tP.push _⟩ (by rw[A9 pB,ab2,<- rv.length]) ?_ (λb ob e=>aaT _ e) ?_ λi v e=>?_)
   .intro m;rcases abb.mp m with z|z
    .exact absurd z (acI (pY hS))
    .exact absurd (aa3.mp z) (agw hp)
   .intro b m;rw[aa3.mp m];exact ag1 (afk (pY hS))
   .obtain⟨q',e1,a,key,e2,e3,e4⟩:=u_ i v (by simpa using e);refine⟨q',e1,a,key,e2,λm=>?_,e3,e4⟩;obtain⟨oa,ha,_⟩:=e3;rcases abb.mp m with z|z
    .exact absurd (abM ha) (by rw[z];exact aeM _)
    .exact absurd (abM ha) (by rw[aa3.mp z];exact Nat.not_lt.mpr (afk (pY hS)))
 .obtain⟨au,rv,⟨o,ho,kZ,wU,n,sV⟩,hz⟩:=I.NV hq;obtain⟨qs,pB,u_⟩:=Ik I pJ rv;have hp:=abM ho;refine Si qs (by rw[A9 pB];exact hz) "tuple" (by decide) (λob=>⟨o,aaT _ ho,kZ⟩) (λob Q' E' k=>?_) (λs2 Q' E' o2 hS k=>?_) (λh' tk dm kp=>fin au qs pB hz h' tk dm kp)
  .obtain⟨c0,d0,ZS,sl0⟩:=o;dsimp only at kZ wU sV;subst kZ wU sV;exact ZZ (aaT _ ho) hh λh1 t1 kp=>k h1 t1 kp
  .have tP:s2.heap.IsTuple p au.toArray:=⟨o,o2 p o ho,kZ,n,sV⟩
   refine wpAny_pyIter_tuple tP (k s2.heap.objs.size [s2.heap.objs.size,p] [s2.heap.objs.size] _ _ _ _ (Walks.tuple (A:=X.A.in1.in1) hh s2.heap.objs.size p (acI (Nat.lt_trans hp (pY hS))) au.toArray) ⟨⟨_,ab3 _ rfl,rfl,rfl⟩,tP.push _⟩ (by rw[A9 pB,ab2,<- rv.length]) ?_ (λb ob e=>aaT _ e) ?_ λi v e=>?_)
   .intro m;rcases abb.mp m with z|z
    .exact absurd z (acI (pY hS))
    .exact absurd (aa3.mp z) (agw hp)
   .intro b m;rw[aa3.mp m];exact ag1 (afk (pY hS))
   .obtain⟨q',e1,a,key,e2,e3,e4⟩:=u_ i v (by simpa using e);refine⟨q',e1,a,key,e2,λm=>?_,e3,e4⟩;obtain⟨oa,ha,_⟩:=e3;rcases abb.mp m with z|z
    .exact absurd (abM ha) (by rw[z];exact aeM _)
    .exact absurd (abM ha) (by rw[aa3.mp z];exact Nat.not_lt.mpr (afk (pY hS)))
end L2
namespace L2.Ev
open PySem PySem.Spec PyProof.Rows
structure VA(X:Cx)(i:Nat)(x:Str):Prop where
 N:X.N[i]? = some x
 v:HC X.env.scope x
 d:(x==("__debug__":Str))=false
 c:(x==("__classdict__":Str))=false
theorem VA.pe(h:VA X i x):PE X (.Name x p) (G7 i):=acg h.N h.v h.d h.c
def uv(X:Cx)(o:Expr)(m:Str)(apos:Pos)(as:List Expr)(pos:Pos)(pl:Sem Bool):Prop:=eval (.Call (.Attribute o m apos) as [] pos) X.env=(do
   let ov <- eval o X.env
   standAt apos.atName
   let(f,first) <- holding [ov] (getMethod ov m pl)
   callWith pos f first (backTo pos (starEach as X.env)) (backToKw pos (keywordEach [] X.env)))
def SE(X:Cx)(e:Expr)(es:List Expr)(pos:Pos):Prop:=starEach (e::es) X.env=(false,eval e X.env)::starEach es X.env/\(backTo pos (starEach es X.env)).any (·.1)=false
def GD(X:Cx)(x:Str):Prop:=Gl X x/\(x==("__debug__":Str))=false
noncomputable abbrev XN:=Str×Option Nat
inductive D where
 |aA|bl (b:Bool)|int (i:Int)|str (x:Str)|tup (ds:List D)|lst (ds:List D)|gG (ds:List D)|bP (ak:List (Key×D))|cZ (ak:List (List Key×D))|ins (cn:Str) (fs:List (Str×D))|exc (cn:XN)
def qX(K:PySem.W.Frag)(H:Hp)(a:Addr)(xs:List V):Prop:=(∃o,H a=some (.eU o (.lst xs)))\/
 ∃(o:Obj) (au:Array Value) (n:Nat),K.lookup a=some o/\o.cls=.type "list"/\o.dict=none/\o.data=.seq au n/\au.size<=sizeLine/\aU xs au.toList
theorem qX.sq{K:PySem.W.Frag}(h:qX K H a xs):bZ K H a xs:=h.elim (λz=>.inl (.inr z)) .inr
mutual
inductive Rep(K:PySem.W.Frag)(H:Hp):D->V->List Addr->Prop
 |aA:Rep K H .aA .aA []
 |bl (b:Bool):Rep K H (.bl b) (.bl b) []
 |int (i:Int):Rep K H (.int i) (.int i) []
 |str (x:Str):Rep K H (.str x) (.str x) []
 |tup {a:Addr}{xs:List V}{ds:List D}{fp:List Addr}:ck K H a xs->aB K H ds xs fp->Rep K H (.tup ds) (.ref a) fp
 |lst {a:Addr}{xs:List V}{ds:List D}{fp:List Addr}:H a=some (.lst xs)->aB K H ds xs fp->Rep K H (.lst ds) (.ref a) (a::fp)
 |Av {a:Addr}{xs:List V}{ds:List D}{fp:List Addr}:qX K H a xs->aB K H ds xs fp->Rep K H (.gG ds) (.ref a) fp
 |bP {a:Addr}{ak:List (Key×V)}{es:List (Key×D)}{fp:List Addr}:H a=some (.dK ak)->es.map (·.1)=ak.map (·.1)->aB K H (es.map (·.2)) (ak.map (·.2)) fp->Rep K H (.bP es) (.ref a) (a::fp)
 |cZ {a:Addr}{ak:List (List Key×V)}{es:List (List Key×D)}{fp:List Addr}:H a=some (.dT ak)->es.map (·.1)=ak.map (·.1)->aB K H (es.map (·.2)) (ak.map (·.2)) fp->Rep K H (.cZ es) (.ref a) (a::fp)
 |ins {cn:Str}{a C dx:Addr}{fs:List (Str×V)}{es:List (Str×D)}{fp:List Addr}:PySem.W.nsIn K mainGlobals cn=some (some (.ref C))->H a=some (.ins C dx fs)->H dx=some (.own a)->es.map (·.1)=fs.map (·.1)->aB K H (es.map (·.2)) (fs.map (·.2)) fp->Rep K H (.ins cn es) (.ref a) (a::dx::fp)
 |exc {cn:XN}{a C:Addr}{de:Option Addr}{ob:Obj}:PySem.W.nsIn K mainGlobals cn.1=some (some (.ref C))->H a=some (yF ob a (.ref C) de)->(∀n,cn.2=some n->∃dx,de=some dx/\H dx=some (Dy dx n))->Rep K H (.exc cn) (.ref a) []
inductive aB(K:PySem.W.Frag)(H:Hp):List D->List V->List Addr->Prop
 |nil:aB K H [] [] []
 |cons {d:D}{v:V}{ds:List D}{vs:List V}{f1 f2:List Addr}:Rep K H d v f1->aB K H ds vs f2->aB K H (d::ds) (v::vs) (f1++f2)
end
def a_(H H':Hp):Prop:=(∀a xs,H a=some (.tup xs)->H' a=some (.tup xs))/\(∀a o u,H a=some (.eU o u)->H' a=some (.eU o u))/\∀a φ,H a=some (.ext φ)->H' a=some (.ext φ)
theorem a_.sqt{K:PySem.W.Frag}(i:a_ H H')(h:ck K H a xs):ck K H' a xs:=by
 rcases h with(h|⟨o,h⟩)|h
 .exact .inl (.inl (i.1 _ _ h))
 .exact .inl (.inr ⟨o,i.2.1 _ _ _ h⟩)
 .exact .inr h
theorem a_.eU{K:PySem.W.Frag}(i:a_ H H')(h:qX K H a xs):qX K H' a xs:=by
 rcases h with⟨o,h⟩|h
 .exact .inl ⟨o,i.2.1 _ _ _ h⟩
 .exact .inr h
theorem a_.of(h:aH H H'):a_ H H':=⟨λ_ _ e=>h _ _ e,λ_ _ _ e=>h _ _ e,λ_ _ e=>h _ _ e⟩
theorem a_.trans(a:a_ H H1)(b:a_ H1 H2):a_ H H2:=⟨λ_ _ e=>b.1 _ _ (a.1 _ _ e),λ_ _ _ e=>b.2.1 _ _ _ (a.2.1 _ _ _ e),λ_ _ e=>b.2.2 _ _ (a.2.2 _ _ e)⟩
noncomputable def i7:HO->Bool
 |.lst _|.dK _|.dT _|.ins _ _ _|.own _=>true
 |_=>false
theorem a_.upd(h:H p=some o)(m:i7 o=true):a_ H (upd H p o'):=by
 refine⟨λa xs e=>?_,λa q u e=>?_,λa q e=>?_⟩
 .rw[aP]
  .exact e
  .rintro rfl;rw[h] at e;cases e;cases m
 .rw[aP]
  .exact e
  .rintro rfl;rw[h] at e;cases e;cases m
 .rw[aP]
  .exact e
  .rintro rfl;rw[h] at e;cases e;cases m
section
variable{K:PySem.W.Frag}
theorem Rep.frame(r:Rep K H d v fp)(k:∀a∈fp,H' a=H a)(i:a_ H H'):Rep K H' d v fp:=
 Rep.rec (motive_2:=λd v fp _=>(∀a∈fp,H' a=H a)->aB K H' d v fp) (λ_=>.aA) (λb _=>.bl b) (λn _=>.int n) (λx _=>.str x) (λh _ r k=>.tup (i.sqt h) (r k))
  (λh _ r k=>.lst ((k _ (.head _)).trans h) (r λa m=>k a (.tail _ m))) (λh _ r k=>.Av (i.eU h) (r k)) (λh e _ r k=>.bP ((k _ (.head _)).trans h) e (r λa m=>k a (.tail _ m))) (λh e _ r k=>.cZ ((k _ (.head _)).trans h) e (r λa m=>k a (.tail _ m)))
  (λg h h2 e _ r k=>.ins g ((k _ (.head _)).trans h) ((k _ (.tail _ (.head _))).trans h2) e (r λa m=>k a (.tail _ (.tail _ m)))) (λg h p _=>.exc g (i.2.1 _ _ _ h) λn e=>(p n e).imp λ_ q=>⟨q.1,i.2.2 _ _ q.2⟩)
  (λ_=>.nil) (λ_ _ h t k=>.cons (h λa m=>k a (abq _ m)) (t λa m=>k a (aaV _ m))) r k
theorem aB.frame:∀{ds} {vs} {fp},aB K H ds vs fp->(∀a∈fp,H' a=H a)->a_ H H'->aB K H' ds vs fp
 |_,_,_,.nil,_,_=>.nil
 |_,_,_,.cons h t,k,i=>.cons (h.frame (λa m=>k a (abq _ m)) i) (aB.frame t (λa m=>k a (aaV _ m)) i)
theorem Rep.cC(r:Rep K H d v fp):∀a∈fp,∃o,H a=some o/\i7 o=true:=by
 have c:∀{b} {o} {f},H b=some o->i7 o=true->(∀a∈f,∃o,H a=some o/\i7 o=true)->∀a∈b::f,∃o,H a=some o/\i7 o=true:=λh m r a=>λ| .head _=>⟨_,h,m⟩|.tail _ z=>r a z
 have n:∀a∈([]:List Addr),∃o,H a=some o/\i7 o=true:=λ_ m=>nomatch m
 exact Rep.rec n (λ_=>n) (λ_=>n) (λ_=>n) (λ_ _ r=>r) (λh _ r=>c h rfl r) (λ_ _ r=>r) (λh _ _ r=>c h rfl r) (λh _ _ r=>c h rfl r)
  (λ_ h h2 _ _ r=>c h rfl (c h2 rfl r)) (λ_ _ _=>n) n (λ_ _ h t a m=>(abE.mp m).elim (h a) (t a)) r
theorem aB.cC:∀{ds} {vs} {fp},aB K H ds vs fp->∀a∈fp,∃o,H a=some o/\i7 o=true
 |_,_,_,.nil,_,m=>nomatch m
 |_,_,_,.cons h t,a,m=>(abE.mp m).elim (h.cC a) (aB.cC t a)
theorem Rep.same(h:Rep K H d v fp)(s:aH H H'):Rep K H' d v fp:=
 h.frame (λa m=>let⟨o,e,_⟩:=h.cC a m;(s a o e).trans e.symm) (.of s)
theorem aB.same(h:aB K H ds vs fp)(s:aH H H'):aB K H' ds vs fp:=
 h.frame (λa m=>let⟨o,e,_⟩:=h.cC a m;(s a o e).trans e.symm) (.of s)
theorem aB.length:∀{ds} {vs} {fp},aB K H ds vs fp->ds.length=vs.length
 |_,_,_,.nil=>rfl
 |_,_,_,.cons _ t=>by rw[acf,acf,aB.length t]
theorem aB.get:∀{ds} {vs} {fp}{i:Nat} {d},aB K H ds vs fp->ds[i]? = some d->∃v f,vs[i]? = some v/\Rep K H d v f/\∀a∈f,a∈fp
 |_,_,_,_,_,.nil,e=>by simp at e
 |_,_,_,0,_,.cons h t,e=>by
  have e':=ab1 e;subst e';exact⟨_,_,rfl,h,λa m=>abq _ m⟩
 |_,_,_,i+1,d,.cons h t,e=>by
  obtain⟨v,f,e1,r,s⟩:=aB.get t (by simpa using e);exact⟨v,f,by simpa using e1,r,λa m=>aaV _ (s a m)⟩
theorem aB.append:∀{ds es} {vs ws} {f g},aB K H ds vs f->aB K H es ws g->aB K H (ds++es) (vs++ws) (f++g)
 |_,_,_,_,_,_,.nil,s=>s
 |_,_,_,_,_,g,.cons h t,s=>by
  rw[afi];exact .cons h (aB.append t s)
end
theorem Rep.iy{K:PySem.W.Frag}(r:Rep K H (.int i) v fp):v=.int i/\fp=[]:=by cases r;exact⟨rfl,rfl⟩
theorem Rep.AU{K:PySem.W.Frag}(r:Rep K H (.bl i) v fp):v=.bl i/\fp=[]:=by cases r;exact⟨rfl,rfl⟩
theorem Rep.yE{K:PySem.W.Frag}(r:Rep K H (.str i) v fp):v=.str i/\fp=[]:=by cases r;exact⟨rfl,rfl⟩
theorem Rep.Ai{K:PySem.W.Frag}(r:Rep K H .aA v fp):v=.aA/\fp=[]:=by cases r;exact⟨rfl,rfl⟩
mutual
noncomputable def aC:D->Bool
 |.lst _|.bP _|.cZ _|.ins _ _=>false
 |.tup ds=>aN ds
 |.gG ds=>aN ds
 |_=>true
noncomputable def aN:List D->Bool
 |[]=>true
 |d::ds=>aC d&&aN ds
end
section
variable{K:PySem.W.Frag}
theorem Rep.aC(r:Rep K H d v fp)(e:aC d=true):fp=[]:=
 Rep.rec (motive_2:=λds _ fp _=>aN ds=true->fp=[]) (λ_=>rfl) (λ_ _=>rfl) (λ_ _=>rfl) (λ_ _=>rfl) (λ_ _ r e=>r (by rw[L2.Ev.aC] at e;exact e)) (λ_ _ _ e=>by delta L2.Ev.aC at e;cases e) (λ_ _ r e=>r (by rw[L2.Ev.aC] at e;exact e))
  (λ_ _ _ _ e=>by delta L2.Ev.aC at e;cases e) (λ_ _ _ _ e=>by delta L2.Ev.aC at e;cases e) (λ_ _ _ _ _ _ e=>by delta L2.Ev.aC at e;cases e) (λ_ _ _ _=>rfl) (λ_=>rfl) (λ_ _ h t e=>by
   rw[aN,abn] at e;rw[h e.1,t e.2];rfl) r e
theorem aB.aC:∀{ds} {vs} {fp},aB K H ds vs fp->aN ds=true->fp=[]
 |_,_,_,.nil,_=>rfl
 |_,_,_,.cons h t,e=>by
  rw[aN,abn] at e;rw[h.aC e.1,aB.aC t e.2];rfl
end
inductive Tag where
 |own|lk|sh (o:List Nat)
noncomputable abbrev Slot:=Option (D×Tag)
abbrev aO:=List Slot
def vW(z:Addr->Option Nat)(i:Nat):Tag->List Addr->Prop
 |.sh o,fp=>∀a∈fp,∀j,z a=some j->j∈o
 |_,fp=>fp.Nodup/\∀a∈fp,z a=some i
def uF(ρ:aO)(j:Nat):Prop:=∀d,ρ[j]?≠some (some (d,.own))
structure qS where
 d:D
 v:V
 fp:List Addr
 z0:Addr->Option Nat
structure Ok(K:PySem.W.Frag)(H0:Hp)(S:List Addr)(z:Addr->Option Nat)(aq:List qS)(ρ:aO)(σ:St)(H:Hp):Prop where
 sl:∀i d t,ρ[i]? = some (some (d,t))->∃v fp,σ[i]? = some (some v)/\Rep K H d v fp/\vW z i t fp
 hl:∀p∈aq,Rep K H p.d p.v p.fp/\∀a∈p.fp,∀j,z a=some j->p.z0 a=some j/\uF ρ j
 zd:∀a j,z a=some j->(∃o,H a=some o)/\(H0 a=none\/a∈S)
 en:∀a o,H0 a=some o->a∉S->H a=some o
 ln:ρ.length=σ.length
theorem Ok.same{K:PySem.W.Frag}(h:Ok K H0 S z aq ρ σ H)(s:aH H H'):Ok K H0 S z aq ρ σ H':=
 ⟨λi d t e=>let⟨v,fp,a,b,c⟩:=h.sl i d t e;⟨v,fp,a,b.same s,c⟩,λp m=>let⟨a,b⟩:=h.hl p m;⟨a.same s,b⟩,
  λa j e=>let⟨⟨o,x⟩,y⟩:=h.zd a j e;⟨⟨o,s _ _ x⟩,y⟩,λa o e n=>s _ _ (h.en a o e n),h.ln⟩
def cI(z:Addr->Option Nat)(H:Hp):Tag->List Addr->Prop
 |.sh o,fp=>∀a∈fp,∀j,z a=some j->j∈o
 |_,fp=>fp.Nodup/\∀a∈fp,H a=none
theorem cI.nil:cI z H t []:=by
 cases t with
 |sh o=>intro a m;cases m
 |own=>exact⟨acj,λa m=>nomatch m⟩
 |lk=>exact⟨acj,λa m=>nomatch m⟩
abbrev EF:=aO->Option (D×Tag)
def FP(X:Cx)(e:Expr)(f:EF):Prop:=∃t,PE X e t/\∀{H0} {S} {z} {aq} {ρ} {σ} {H} {Q} {d} {tg},
 Ok X.K H0 S z aq ρ σ H->f ρ=some (d,tg)->(∀H' v fp,aH H H'->Rep X.K H' d v fp->cI z H tg fp->Q v H')->t σ H Q
abbrev AF:=aO->Option (List (D×Tag))
abbrev TF:=aO->Option Bool
def FT(X:Cx)(e:Expr)(f:TF):Prop:=∃t,PT X e t/\∀{H0} {S} {z} {aq} {ρ} {σ} {H} {Q} {b},
 Ok X.K H0 S z aq ρ σ H->f ρ=some b->(∀H',aH H H'->Q b H')->t σ H Q
noncomputable def HR(i:Nat):Tag->Tag
 |.sh o=>.sh o
 |_=>.sh [i]
def aj(i:Nat):EF:=λρ=>match ρ[i]? with
 |some (some (d,t))=>some (d,HR i t)
 |_=>none
theorem ah(i:Nat)(va:VA X i x:=by walk_at "va"):FP X (.Name x pos) (aj i):=by
 exists 20,va.pe;unfold aj at e;exists h,ρ[i]?,s,e,0;cases s with
 |none=>rw[h] at e;cases e
 |some p=>
  obtain⟨d',t⟩:=p;rw[h] at e;have e':=ab1 e;have e1:=congrArg Prod.fst e';have e2:=congrArg Prod.snd e';subst e1 e2;obtain⟨v,fp,hs,r,zz⟩:=ok.sl i d' t h;refine⟨v,hs,q H v fp (aH.refl H) r ?_⟩;cases t with
  |sh o=>exact zz
  |own=>intro a m j ej;rw[zz.2 a m] at ej;cases ej;exact aar
  |lk=>intro a m j ej;rw[zz.2 a m] at ej;cases ej;exact aar
noncomputable def eC(d:D):EF:=λ_=>some (d,.own)
theorem aD{i j pos}:FP X (.Constant (.int i) j pos) (eC (.int i)):=⟨_,LA,@λ_ _ _ _ _ _ H _ _ _ _ e q=>by cases e;exact q H _ _ (aH.refl H) (.int i) .nil⟩
theorem gm{b j pos}:FP X (.Constant (.bool b) j pos) (eC (.bl b)):=⟨_,af8,@λ_ _ _ _ _ _ H _ _ _ _ e q=>by cases e;exact q H _ _ (aH.refl H) (.bl b) .nil⟩
theorem jJ{j pos}:FP X (.Constant .none j pos) (eC .aA):=⟨_,YO,@λ_ _ _ _ _ _ H _ _ _ _ e q=>by cases e;exact q H _ _ (aH.refl H) .aA .nil⟩
theorem cE{x j pos}:FP X (.Constant (.str x) j pos) (eC (.str x)):=⟨_,Uy,@λ_ _ _ _ _ _ H _ _ _ _ e q=>by cases e;exact q H _ _ (aH.refl H) (.str x) .nil⟩
noncomputable def e2(op:D->D->Option D)(fa fb:EF):EF:=λρ=>match fa ρ,fb ρ with
 |some (d1,_),some (d2,_)=>(op d1 d2).map λd=>(d,.own)
 |_,_=>none
theorem nR(e:e2 op fa fb ρ=some (d,tg)):∃d1 t1 d2 t2,fa ρ=some (d1,t1)/\fb ρ=some (d2,t2)/\op d1 d2=some d/\tg=.own:=by
 unfold e2 at e;exists h1,fa ρ,p,e,0;obtain⟨d1,t1⟩:=p;cases h2:fb ρ with
 |none=>rw[h1,h2] at e;cases e
 |some p=>
  obtain⟨d2,t2⟩:=p;rw[h1,h2] at e;exists 70;exists h3,op d1 d2,d3,e;cases e;exact⟨d1,t1,d2,t2,rfl,rfl,h3,rfl⟩
def gC(K:PySem.W.Frag)(r:R2)(op:D->D->Option D):Prop:=∀(H) (x y) (d1 d2) (f1 f2) (d) (Q),Rep K H d1 x f1->Rep K H d2 y f2->op d1 d2=some d->
 (∀H' v,aH H H'->Rep K H' d v []->Q v H')->r x y H Q
theorem fp_2{a b e:Expr}(dd:gC X.K r op)(ha:FP X a fa)(hb:FP X b fb)(he:∀ta tb,PE X a ta->PE X b tb->PE X e (uE r ta tb)):FP X e (e2 op fa fb):=by
 exists 51;exists 20,he ta tb pa pb;exists 86;exists 85
 exists 54
 exact dd H2 x y d1 d2 f1 f2 d Q (r1.same s2) r2 e3 λH3 v s3 r3=>q H3 v [] ((s1.trans s2).trans s3) r3 .nil
end L2.Ev
namespace L2.Ev
open PySem PySem.Spec PyProof.Rows
noncomputable def Ph:Tag->Tag->Tag
 |.sh o,.sh p=>.sh (o++p)
 |.sh o,_=>.sh o
 |_,t=>t
def jM:List (D×Tag)->Tag
 |[]=>.own
 |p::r=>Ph p.2 (jM r)
def FA(X:Cx)(es:List Expr)(f:AF):Prop:=∃t,PA X es t/\(∀ρ ps,f ρ=some ps->ps.length=es.length)/\∀{H0} {S} {z} {aq} {ρ} {σ} {H} {Q} {ps},
 Ok X.K H0 S z aq ρ σ H->f ρ=some ps->(∀H' vs fp,aH H H'->aB X.K H' (ps.map (·.1)) vs fp->cI z H (jM ps) fp->Q vs H')->t σ H Q
noncomputable def aJ:AF:=λ_=>some []
noncomputable def ay(f:EF)(g:AF):AF:=λρ=>match f ρ,g ρ with
 |some p,some ps=>some (p::ps)
 |_,_=>none
theorem GH(e:ay f g ρ=some ps):∃d t r,f ρ=some (d,t)/\g ρ=some r/\ps=(d,t)::r:=by
 unfold ay at e;exists h1,f ρ,p,e,0;cases h2:g ρ with
 |none=>rw[h1,h2] at e;cases e
 |some r=>
  rw[h1,h2] at e;cases e;exact⟨p.1,p.2,r,rfl,rfl,rfl⟩
theorem cI.join{K:PySem.W.Frag}(ok:Ok K H0 S z aq ρ σ H)(s:aH H H1)
  (h1:cI z H t1 f1) (d1:∀a∈f1,∃o,H1 a=some o/\i7 o=true) (h2:cI z H1 t2 f2):cI z H (Ph t1 t2) (f1++f2):=by
 have nz:∀{a} {j},H a=none->z a=some j->False:=λ{a j} e q=>by
  obtain⟨⟨o,w⟩,_⟩:=ok.zd a j q;rw[e] at w;cases w
 have both:∀{t1 t2:Tag},(f1.Nodup/\∀a∈f1,H a=none)->(f2.Nodup/\∀a∈f2,H1 a=none)->(f1++f2).Nodup/\∀a∈f1++f2,H a=none:=λp q=>by
  refine⟨acP.mpr ⟨p.1,q.1,λa m b m' e=>?_⟩,λa m=>?_⟩
  .subst e;obtain⟨o,w,_⟩:=d1 a m;rw[q.2 a m'] at w;cases w
  .rcases abE.mp m with m|m
   .exact p.2 a m
   .exact s.free (q.2 a m)
 cases t1 with
 |sh o=>
  have ie:=h1;cases t2 with
  |sh p=>
   intro a m j q;rcases abE.mp m with m|m
   .exact abq _ (ie a m j q)
   .exact aaV _ (h2 a m j q)
  |own=>
   intro a m j q;rcases abE.mp m with m|m
   .exact ie a m j q
   .exact(nz (s.free (h2.2 a m)) q).elim
  |lk=>
   intro a m j q;rcases abE.mp m with m|m
   .exact ie a m j q
   .exact(nz (s.free (h2.2 a m)) q).elim
 |own=>
  cases t2 with
  |sh p=>
   intro a m j q;rcases abE.mp m with m|m
   .exact(nz (h1.2 a m) q).elim
   .exact h2 a m j q
  |own=>exact both (t1:=.own) (t2:=.own) h1 h2
  |lk=>exact both (t1:=.own) (t2:=.own) h1 h2
 |lk=>
  cases t2 with
  |sh p=>
   intro a m j q;rcases abE.mp m with m|m
   .exact(nz (h1.2 a m) q).elim
   .exact h2 a m j q
  |own=>exact both (t1:=.own) (t2:=.own) h1 h2
  |lk=>exact both (t1:=.own) (t2:=.own) h1 h2
theorem aF:FA X [] aJ:=⟨_,eT,λ_ _ e=>by cases e;rfl,@λ_ _ _ _ _ _ H _ _ _ e q=>by cases e;exact q H _ _ (aH.refl H) .nil .nil⟩
theorem ao{e:Expr}{es:List Expr}(ha:FP X e f)(hr:FA X es g)(hs:starEach (e::es) X.env=(false,eval e X.env)::starEach es X.env:=by rfl):FA X (e::es) (ay f g):=by
 exists 69;obtain⟨t',p',l',q'⟩:=hr;refine⟨_,cP p p' hs,λρ ps e=>by obtain⟨d,tg,r,e1,e2,rfl⟩:=GH e;rw[acf,acf,l' ρ r e2],@λH0 S z aq ρ σ H Q ps ok e k=>?_⟩;obtain⟨d,tg,r,e1,e2,rfl⟩:=GH e;refine q ok e1 λH1 v f1 s1 r1 g1=>?_
 refine q' (ok.same s1) e2 λH2 vs f2 s2 r2 g2=>?_
 exact k H2 (v::vs) (f1++f2) (s1.trans s2) (.cons (r1.same s2) r2) (cI.join ok s1 g1 r1.cC g2)
def mD(g:AF):EF:=λρ=>(g ρ).map λps=>(.tup (ps.map (·.1)),jM ps)
theorem jO{x1}(h:FA X es g)(hl:es.length<=1000:=by decide):FP X (.Tuple es x1 pos) (mD g):=by
 obtain⟨t,p,hg,q⟩:=h;exists 21,PL p;unfold mD at e;exists h1,g ρ,ps,e;cases e;refine q ok h1 λH1 vs fp s1 r1 g1=>⟨?_,λa ha=>?_⟩
 .rw[<- r1.length,List.length_map,hg ρ ps h1];exact afk (wg hl)
 .have s2:aH H1 (upd H1 a (.tup vs)):=λb o e=>by rw[aP (cV e ha)];exact e
  exact k _ _ fp (s1.trans s2) (.tup (ck.of cB) (r1.same s2)) g1
def jS(g:AF):EF:=λρ=>(g ρ).map λps=>(.lst (ps.map (·.1)),jM ps)
theorem cI.cons{K:PySem.W.Frag}(ok:Ok K H0 S z aq ρ σ H)(s:aH H H1)(h:cI z H t fp)
  (d:∀b∈fp,∃o,H1 b=some o/\i7 o=true) (ha:H1 a=none):cI z H t (a::fp):=by
 have na:=s.free ha;have both:(fp.Nodup/\∀b∈fp,H b=none)->(a::fp).Nodup/\∀b∈a::fp,H b=none:=λp=>by
  refine⟨abV.mpr ⟨λm=>?_,p.1⟩,λb m=>?_⟩
  .obtain⟨o,w,_⟩:=d a m;rw[ha] at w;cases w
  .rcases abb.mp m with e|m
   .rw[e];exact na
   .exact p.2 b m
 cases t with
 |sh o=>
  intro b m j q;rcases abb.mp m with e|m
  .obtain⟨⟨o,w⟩,_⟩:=ok.zd b j q;rw[e,na] at w;cases w
  .exact h b m j q
 |own=>exact both h
 |lk=>exact both h
theorem fS(h:FA X es g)(hl:es.length<=1000:=by decide):FP X (.List es pos) (jS g):=by
 obtain⟨t,p,hg,q⟩:=h;exists 21,VE p;unfold jS at e;exists h1,g ρ,ps,e;cases e;refine q ok h1 λH1 vs fp s1 r1 g1=>⟨?_,λa ha=>?_⟩
 .rw[<- r1.length,List.length_map,hg ρ ps h1];exact afk (wg hl)
 .have s2:aH H1 (upd H1 a (.lst vs)):=λb o e=>by rw[aP (cV e ha)];exact e
  exact k _ _ (a::fp) (s1.trans s2) (.lst cB (r1.same s2)) (g1.cons ok s1 r1.cC ha)
def bz(K:PySem.W.Frag)(F:List D->Option D):Sp:=λvs H Q _=>∃ds fp d,aB K H ds vs fp/\F ds=some d/\∀H' v gP,aH H H'->Rep K H' d v gP->gP.Nodup->(∀a∈gP,H a=none)->Q v H'
noncomputable def cO(F:List D->Option D)(g:AF):EF:=λρ=>(g ρ).bind λps=>(F (ps.map (·.1))).map λd=>(d,.own)
theorem ZV(e:cO F g ρ=some (d,tg)):∃ps,g ρ=some ps/\F (ps.map (·.1))=some d/\tg=.own:=by
 unfold cO at e;exists h1,g ρ,ps,e,0;rw[h1,acV] at e;exists h2,F (ps.map (·.1)),d',e;cases e;exact⟨ps,rfl,h2,rfl⟩
theorem bC(G:bX X.prog X.w X.K X.mg X.base c9 k f fd ps (bz X.K F) cm)(hr:bu k X.A cm)(hm:X.mg x=some (.ref f))(hk:PySem.W.keepIn X.K (.ref f)=true)(hb:Binds X.K fd ps [])(ha:FA X (e::es) g)
  (hg:GD X x:=by exact⟨rfl,by decide⟩)
  (he:SE X e es pos:=by exact⟨rfl,rfl⟩):FP X (.Call (.Name x p) (e::es) [] pos) (cO F g):=by
 obtain⟨t,pa,_,sa⟩:=ha;refine⟨_,Lm G hr hg.1 hm hk hb .nil nq pa hg.2 he.1 he.2,@λH0 S z aq ρ σ H Q d tg ok e0 q=>?_⟩;obtain⟨qs,e1,e2,rfl⟩:=ZV e0;refine sa ok e1 λH1 vs fp s1 r1 _=>?_
 rw[acE];exact⟨_,fp,d,r1,e2,λH2 v gP s2 r2 nd fr=>q H2 v gP (s1.trans s2) r2 ⟨nd,λa m=>s1.free (fr a m)⟩⟩
noncomputable def tV(f:EF):TF:=λρ=>match f ρ with
 |some (.bl b,_)=>some b
 |_=>none
theorem DZ(e:tV f ρ=some b):∃t,f ρ=some (.bl b,t):=by
 unfold tV at e;exists h,f ρ,p,e,0;obtain⟨d,t⟩:=p;rw[h] at e;cases d<;>first|(cases e;exact⟨t,rfl⟩)|cases e
theorem fM(h:FP X e f)(he:∀whole,isTrue e X.env whole=(do let v <- whole;standAt e.pos;holding [v] (truthy v)):=by intro _;rfl):FT X e (tV f):=by
 obtain⟨t,p,q⟩:=h;refine⟨_,J9 p he,@λH0 S z aq ρ σ H Q b ok e k=>?_⟩;obtain⟨tg,e1⟩:=DZ e;refine q ok e1 λH1 v fp s1 r1 _=>?_
 cases r1;exact⟨b,rfl,k H1 s1⟩
theorem iY(ho:c_ X (compareOp op) r)(dd:gC X.K r o)(ha:FP X a fa)(hb:FP X b fb)(hm:behindInMarks op b=false):FT X (.Compare a [op] [b] pos) (tV (e2 o fa fb)):=by
 exists 51;exists 22,KP ho pa pb hm;obtain⟨tg,e0⟩:=DZ e;obtain⟨d1,t1,d2,t2,e1,jt,e3,rfl⟩:=nR e0;exists 85
 exists 54
 refine dd H2 x y d1 d2 f1 f2 _ _ (r1.same s2) r2 e3 λH3 v s3 r3=>?_
 cases r3;exact⟨c,rfl,k H3 ((s1.trans s2).trans s3)⟩
theorem oB(ho:c_ X (compareOp op) r)(dd:gC X.K r o)(ha:FP X a fa)(hb:FP X b fb)(hm:behindInMarks op b=false):FP X (.Compare a [op] [b] pos) (e2 o fa fb):=
 fp_2 dd ha hb λ_ _ pa pb=>Df ho pa pb hm
theorem zK(ho:c_ X (binaryOp op) r)(dd:gC X.K r o)(ha:FP X a fa)(hb:FP X b fb):FP X (.BinOp a op b pos) (e2 o fa fb):=
 fp_2 dd ha hb λ_ _ pa pb=>OS ho pa pb
noncomputable def jy(f g:TF):TF:=λρ=>match f ρ with
 |some true=>g ρ
 |some false=>some false
 |none=>none
noncomputable def jX(f g:TF):TF:=λρ=>match f ρ with
 |some true=>some true
 |some false=>g ρ
 |none=>none
noncomputable def lW(f:TF):TF:=λρ=>(f ρ).map λb=>!b
def FW(X:Cx)(e:Expr)(f:TF):Prop:=∃t,PW X e t/\∀{H0} {S} {z} {aq} {ρ} {σ} {H} {Q} {b},
 Ok X.K H0 S z aq ρ σ H->f ρ=some b->(∀H',aH H H'->Q b H')->t σ H Q
theorem FW.ft(h:FW X e f):FT X e f:=let⟨t,p,q⟩:=h;⟨t,p.pt,q⟩
theorem tW(h:FT X a f):FW X (.BoolOp .And [a] pos) f:=let⟨t,p,q⟩:=h;⟨t,KD p,q⟩
theorem mz(h:FT X a f):FW X (.BoolOp .Or [a] pos) f:=let⟨t,p,q⟩:=h;⟨t,UX p,q⟩
theorem qR{rest:List Expr}(ha:FT X a f)(hb:FW X (.BoolOp .And (b::rest) pos) g):FW X (.BoolOp .And (a::b::rest) pos) (jy f g):=by
 exists 69;obtain⟨t',p',q'⟩:=hb;exists 22,Ms p p';unfold jy at e;exists h,f ρ,y,e;cases y with
 |false=>
  cases e;refine q ok h λH1 s1=>?_
  rw[if_neg abz];exact k H1 s1
 |true=>
  refine q ok h λH1 s1=>?_
  rw[if_pos rfl];exact q' (ok.same s1) e λH2 s2=>k H2 (s1.trans s2)
theorem kH{rest:List Expr}(ha:FT X a f)(hb:FW X (.BoolOp .Or (b::rest) pos) g):FW X (.BoolOp .Or (a::b::rest) pos) (jX f g):=by
 exists 69;obtain⟨t',p',q'⟩:=hb;exists 22,SO p p';unfold jX at e;exists h,f ρ,y,e;cases y with
 |true=>
  cases e;refine q ok h λH1 s1=>?_
  rw[if_pos rfl];exact k H1 s1
 |false=>
  refine q ok h λH1 s1=>?_
  rw[if_neg abz];exact q' (ok.same s1) e λH2 s2=>k H2 (s1.trans s2)
theorem i9(ha:FT X a f):FT X (.UnaryOp .Not a pos) (lW f):=by
 exists 69;exists 22,Pc p;unfold lW at e;exists h,f ρ,y,e;cases e;exact q ok h λH1 s1=>k H1 s1
inductive Out where
 |nx (ρ:aO)|rt (d:D)|bk (ρ:aO)|ct (ρ:aO)
 |er (raw:Bool) (cn:XN) (ρ:aO)
abbrev SF:=aO->Option Out
noncomputable def kK(X:Cx)(x:Str):Bool:=x==("self":Str)||(X.fn ("self":Str)&&!X.fn x)
def Kp(X:Cx)(σ az:St):Prop:=∀(i:Nat) (x),X.N[i]? = some x->kK X x=true->az[i]? = σ[i]?
theorem Kp.refl(X:Cx)(σ:St):Kp X σ σ:=λ_ _ _ _=>rfl
theorem Kp.trans(a:Kp X σ oE)(b:Kp X oE iN):Kp X σ iN:=λi x h k=>(b i x h k).trans (a i x h k)
theorem Kp.set(hi:X.N[i]? = some x)(hs:kK X x=false):Kp X σ (σ.set i v):=λj y h k=>by
 refine acO λe=>?_
 subst e;rw[hi] at h;have h:=ab1 h;subst h;rw[hs] at k;cases k
def uZ(X:Cx)(H0:Hp)(S:List Addr)(aq:List qS)(oY:St)(raw:Bool)(cn:XN)(ρ:aO):Prop:=∃ES:XS,(if raw=true then JN X ES else rJ X ES)/\
 ∀z σ H C,Ok X.K H0 S z aq ρ σ H->Kp X oY σ->PySem.W.nsIn X.K mainGlobals cn.1=some (some (.ref C))->ES (.ref C) cn.2 σ H
theorem uZ.of(k:uZ X H0 S aq σ raw cn ρ)(a:Kp X σ az):uZ X H0 S aq az raw cn ρ:=
 let⟨ES,th,q⟩:=k;⟨ES,th,λz s H C ok b hC=>q z s H C ok (a.trans b) hC⟩
def mP(X:Cx)(H0:Hp)(S:List Addr)(aq:List qS)(oY:St)(E:Ends):Out->Prop
 |.nx ρ=>∀z σ H,Ok X.K H0 S z aq ρ σ H->Kp X oY σ->E.nx σ H
 |.bk ρ=>∀z σ H,Ok X.K H0 S z aq ρ σ H->Kp X oY σ->E.bk σ H
 |.ct ρ=>∀z σ H,Ok X.K H0 S z aq ρ σ H->Kp X oY σ->E.ct σ H
 |.er raw cn ρ=>uZ X H0 S aq oY raw cn ρ
 |.rt d=>∀H v fp,(∀a o,H0 a=some o->a∉S->H a=some o)->Rep X.K H d v fp->fp.Nodup->(∀a∈fp,H0 a=none\/a∈S)->E.rt v H
def FS(X:Cx)(st:List Stmt)(f:SF):Prop:=∃t,iH X st t/\∀{H0} {S} {z} {aq} {ρ} {σ} {H} {E} {o},
 Ok X.K H0 S z aq ρ σ H->f ρ=some o->mP X H0 S aq σ E o->t E σ H
def eV(X:Cx)(st:Stmt)(f:SF):Prop:=∃t,PS X st t/\∀{H0} {S} {z} {aq} {ρ} {σ} {H} {E} {o},
 Ok X.K H0 S z aq ρ σ H->f ρ=some o->mP X H0 S aq σ E o->t E σ H
theorem mP.of(k:mP X H0 S aq σ E o)(a:Kp X σ az):mP X H0 S aq az E o:=by
 cases o with
 |nx ρ=>exact λz s H ok b=>k z s H ok (a.trans b)
 |bk ρ=>exact λz s H ok b=>k z s H ok (a.trans b)
 |ct ρ=>exact λz s H ok b=>k z s H ok (a.trans b)
 |rt d=>exact k
 |er raw cn ρ=>exact uZ.of k a
noncomputable def gK:SF:=λρ=>some (.nx ρ)
noncomputable def b7(f g:SF):SF:=λρ=>match f ρ with
 |some (.nx ρ')=>g ρ'
 |o=>o
theorem cj:FS X [] gK:=⟨_,OY,@λ_ _ z _ _ σ H _ _ ok e k=>by cases e;exact k z σ H ok (.refl _ _)⟩
theorem aI{st:Stmt}(h:eV X st f):FS X [st] f:=let⟨t,p,q⟩:=h;⟨t,N4 p,q⟩
theorem aL{st:Stmt}{rest:List Stmt}(h1:eV X st f)(h2:FS X rest g):FS X (st::rest) (b7 f g):=by
 obtain⟨t,p,q⟩:=h1;obtain⟨t',p',q'⟩:=h2;exists 23,zh p p';unfold b7 at e;exists h,f ρ,w,e,0;refine q ok h ?_;rw[h] at e;cases w with
 |nx ρ'=>exact λz' az H' aT a=>q' aT e (k.of a)
 |rt d=>cases e;exact k
 |bk ρ'=>cases e;exact k
 |ct ρ'=>cases e;exact k
 |er _ _ _=>cases e;exact k
noncomputable def LO:SF:=λ_=>none
theorem mQ{st:Stmt}:eV X st LO:=⟨_,MY,@λ_ _ _ _ _ _ _ _ _ _ e _=>by cases e⟩
noncomputable def eX(c:TF)(f g:SF):SF:=λρ=>match c ρ with
 |some true=>f ρ
 |some false=>g ρ
 |none=>none
theorem cg(hc:FT X c tc)(ha:FS X a f)(hb:FS X b g):eV X (.If c a b pos) (eX tc f g):=by
 obtain⟨t,p,q⟩:=hc;obtain⟨t1,p1,q1⟩:=ha;obtain⟨t2,p2,q2⟩:=hb;exists 23,Ah p p1 p2;unfold eX at e;exists h,tc ρ,y,e;refine q ok h λH1 s1=>?_
 cases y with
 |true=>rw[if_pos rfl];exact q1 (ok.same s1) e k
 |false=>rw[if_neg abz];exact q2 (ok.same s1) e k
noncomputable def jT:Tag->Bool
 |.sh _=>false
 |_=>true
def lC(f:EF):SF:=λρ=>match f ρ with
 |some (d,t)=>if jT t=true then some (.rt d) else if aC d=true then some (.rt d) else none
 |none=>none
theorem aW(he:FP X e f):eV X (.Return (some e) pos) (lC f):=by
 obtain⟨t,p,q⟩:=he;exists 23,zA p;unfold lC at e;exists h,f ρ,w,e,0;obtain⟨d,tg⟩:=w;rw[h] at e;exists 70;exists 59
 have en:∀a o,H0 a=some o->a∉S->H1 a=some o:=λa o e n=>s1 _ _ (ok.en a o e n)
 by_cases ho:jT tg=true
 .rw[if_pos ho] at e;cases e;have g:fp.Nodup/\∀a∈fp,H a=none:=by cases tg<;>first|exact g1|cases ho
  refine k H1 v fp en r1 g.1 λa m=>?_
  cases h0:H0 a with
  |none=>exact .inl rfl
  |some o=>
   by_cases hs:a∈S
   .exact .inr hs
   .have w:=ok.en a o h0 hs;rw[g.2 a m] at w;cases w
 .rw[if_neg ho] at e;exists 84;cases e;have hn:=r1.aC hi;subst hn;exact k H1 v [] en r1 acj λa m=>nomatch m
def pW(i:Nat):SF:=λρ=>match ρ[i]? with
 |some (some (d,t))=>if jT t=true then some (.rt d) else if aC d=true then some (.rt d) else none
 |_=>none
theorem qY(i:Nat)(va:VA X i x:=by walk_at "va"):eV X (.Return (some (.Name x pos')) pos) (pW i):=by
 exists 23,zA va.pe;unfold pW at e;exists h,ρ[i]?,w,e,0;cases w with
 |none=>rw[h] at e;cases e
 |some w=>
  obtain⟨d,tg⟩:=w;rw[h] at e;exists 70;obtain⟨v,fp,hs,r,zz⟩:=ok.sl i d tg h;refine⟨v,hs,?_⟩
  by_cases ho:jT tg=true
  .rw[if_pos ho] at e;cases e;have g:fp.Nodup/\∀a∈fp,z a=some i:=by cases tg<;>first|exact zz|cases ho
   exact k H v fp ok.en r g.1 λa m=>(ok.zd a i (g.2 a m)).2
  .rw[if_neg ho] at e;exists 84;cases e;have hn:=r.aC hi;subst hn;exact k H v [] ok.en r acj λa m=>nomatch m
noncomputable def iB(ρ:aO)(i:Nat)(d:D):Tag->aO
 |.sh o=>ρ.set i (some (d,.sh o))
 |_=>ρ.set i (some (d,.own))
def dG(i:Nat)(f:EF):SF:=λρ=>match f ρ with
 |some (d,t)=>some (.nx (iB ρ i d t))
 |none=>none
theorem Ok.chg{K:PySem.W.Frag}{fp bH fo:List Addr}(ok:Ok K H0 S z aq ρ σ H)(hi:ρ'[i]? = some (some (d,tg)))(hs:az[i]? = some (some v))(h0:∀a∈bH,z a=some i)(im:a_ H H')
  (keep:∀b o,b∉bH->H b=some o->H' b=some o) (r:Rep K H' d v fp) (hz:vW z' i tg fp) (zn:∀a,a∉fo->z a=some i/\z' a=none\/z' a=z a/\a∉bH/\(z a=some i->¬uF ρ i)) (C9:∀a∈fo,(a∈bH\/H a=none)/\∃o,H' a=some o)
  (ot:∀{j d t},j≠i->ρ'[j]? = some (some (d,t))->ρ[j]? = some (some (d,t))/\(bH=[]\/∀o,t=.sh o->i∉o)) (os:∀j,j≠i->az[j]? = σ[j]?) (hh:bH=[]\/¬uF ρ i) (ln:ρ'.length=az.length):Ok K H0 S z' aq ρ' az H':=by
 have old:∀{a} {o},a∉bH->H a=some o->a∉fo:=λn e m=>(C9 _ m).1.elim n λq=>by rw[e] at q;cases q
 have at_:∀{a} {k},a∉fo->z' a=some k->z a=some k/\a∉bH/\(k=i->¬uF ρ i):=λ{a k} n e=>by
  rcases zn a n with⟨_,w⟩|⟨w,q,u⟩
  .rw[e] at w;cases w
  .rw[e] at w;exact⟨w.symm,q,λx=>u (x ▸ w.symm)⟩
 have S0:∀a∈bH,H0 a=none\/a∈S:=λa m=>(ok.zd a i (h0 a m)).2
 refine⟨λj d' t e=>?_,λp hp=>?_,λa j e=>?_,λa o e n=>keep a o (λm=>?_) (ok.en a o e n),ln⟩
 .by_cases hj:j=i
  .subst hj;rw[hi] at e;cases e;exact⟨v,fp,hs,r,hz⟩
  .obtain⟨e0,nd⟩:=ot hj e;obtain⟨v',gP,cN,r',zz⟩:=ok.sl j d' t e0;have n0:∀a∈gP,a∉bH:=λa m q=>by
    have zi:=h0 a q;rcases nd with rfl|nd
    .cases q
    cases t with
    |sh o=>exact nd o rfl (zz a m i zi)
    |own=>rw[zz.2 a m] at zi;exact hj (ab1 zi)
    |lk=>rw[zz.2 a m] at zi;exact hj (ab1 zi)
   have n1:∀a∈gP,a∉fo:=λa m=>let⟨o,w,_⟩:=r'.cC a m;old (n0 a m) w
   have o1:∀a∈gP,z a=some j->z' a=some j:=λa m e=>by
    rcases zn a (n1 a m) with⟨w,_⟩|⟨w,_⟩
    .rw[e] at w;exact(hj (ab1 w)).elim
    .rw[w,e]
   refine⟨v',gP,(os j hj).trans cN,r'.frame (λa m=>?_) im,?_⟩
   .obtain⟨o,w,_⟩:=r'.cC a m;rw[keep a o (n0 a m) w,w]
   .cases t with
    |sh o=>exact λa m k q=>zz a m k (at_ (n1 a m) q).1
    |own=>exact⟨zz.1,λa m=>o1 a m (zz.2 a m)⟩
    |lk=>exact⟨zz.1,λa m=>o1 a m (zz.2 a m)⟩
 .obtain⟨r',sy⟩:=ok.hl p hp;have n0:∀a∈p.fp,a∉bH:=λa m q=>by
   rcases hh with rfl|hh
   .cases q
   .exact hh (sy a m i (h0 a q)).2
  refine⟨r'.frame (λa m=>?_) im,λa m j q=>?_⟩
  .obtain⟨o,w,_⟩:=r'.cC a m;rw[keep a o (n0 a m) w,w]
  .obtain⟨o,w,_⟩:=r'.cC a m;obtain⟨q,_,hj⟩:=at_ (old (n0 a m) w) q;obtain⟨x,y⟩:=sy a m j q;exact⟨x,λd e=>y d (ot (λx=>hj x (x ▸ y)) e).1⟩
 .by_cases w:a∈fo
  .refine⟨(C9 a w).2,(C9 a w).1.elim (S0 a) λq=>?_⟩;cases h0:H0 a with
   |none=>exact .inl rfl
   |some o=>
    by_cases hs:a∈S
    .exact .inr hs
    .rw[ok.en a o h0 hs] at q;cases q
  .obtain⟨e,n,_⟩:=at_ w e;obtain⟨⟨o,x⟩,y⟩:=ok.zd a j e;exact⟨⟨o,keep a o n x⟩,y⟩
 .rcases S0 a m with q|q
  .rw[e] at q;cases q
  .exact n q
open Classical in
noncomputable def zN(fo:List Addr)(i:Nat)(z:Addr->Option Nat):Addr->Option Nat:=λa=>if a∈fo then some i else if z a=some i then none else z a
theorem II{fo bH:List Addr}(h:∀a∈bH,z a=some i)(a:Addr)(n:a∉fo):z a=some i/\zN fo i z a=none\/zN fo i z a=z a/\a∉bH/\(z a=some i->P):=by
 unfold zN
 by_cases w:z a=some i
 .exact .inl ⟨w,by rw[if_neg n,if_pos w]⟩
 .exact .inr ⟨by rw[if_neg n,if_neg w],λm=>w (h a m),λq=>(w q).elim⟩
theorem Ok.set{K:PySem.W.Frag}{fp:List Addr}(ok:Ok K H0 S z aq ρ σ H)(hi:i<σ.length)(s:aH H H1)
  (r:Rep K H1 d v fp) (g:cI z H t fp):∃z',Ok K H0 S z' aq (iB ρ i d t) (σ.set i (some v)) H1:=by
 have n0:∀a∈([]:List Addr),z a=some i:=λa m=>nomatch m
 have main:∀(fo) (tg),(∀a∈fo,H a=none/\a∈fp)->vW (zN fo i z) i tg fp->∃z',Ok K H0 S z' aq (ρ.set i (some (d,tg))) (σ.set i (some v)) H1:=λfo tg h hz=>
  ⟨_,ok.chg (aer (by rw[ok.ln];exact hi)) (aer hi) n0 (.of s) (λb o _ e=>s b o e) r hz (II n0) (λa m=>⟨.inr (h a m).1,let⟨o,w,_⟩:=r.cC a (h a m).2;⟨o,w⟩⟩)
   (λhj e=>⟨(acO (afr hj)).symm.trans e,.inl rfl⟩) (λj hj=>acO (afr hj)) (.inl rfl) (by rw[agq,agq];exact ok.ln)⟩
 cases t with
 |own=>exact main fp .own (λa m=>⟨g.2 a m,m⟩) ⟨g.1,λa m=>if_pos m⟩
 |lk=>exact main fp .own (λa m=>⟨g.2 a m,m⟩) ⟨g.1,λa m=>if_pos m⟩
 |sh o=>
  refine main [] (.sh o) (λa m=>nomatch m) λa m j q=>?_
  rcases II (fo:=[]) (P:=True) n0 a (λw=>nomatch w) with⟨_,w⟩|⟨w,_⟩
  .rw[q] at w;cases w
  .exact g a m j (w ▸ q)
theorem Ok.stored{K:PySem.W.Frag}{G:Prop}(ok:Ok K H0 S z aq ρ σ H)(s:aH H H1)
  (r:Rep K H1 d v fp) (g:cI z H t fp) (k:∀z',Ok K H0 S z' aq (iB ρ i d t) (σ.set i (some v)) H1->G):G:=by
 by_cases hi:i<σ.length
 .obtain⟨z',aT⟩:=ok.set hi s r g;exact k z' aT
 .have e1:σ.set i (some v)=σ:=List.set_eq_of_length_le (Nat.le_of_not_lt hi);have e2:∀w,ρ.set i w=ρ:=λw=>List.set_eq_of_length_le (by rw[ok.ln];exact Nat.le_of_not_lt hi)
  have e3:iB ρ i d t=ρ:=by cases t<;>exact e2 _
  refine k z ?_;rw[e1,e3];exact ok.same s
theorem bI(i:Nat){x:Str}{e:Expr}(he:FP X e f)(hN:X.N.Nodup)(hi:X.N[i]? = some x:=by rfl)(hx:Loc X.env.scope x:=by first|exact Or.inl rfl|exact Or.inr rfl)
  (hs:swapsWith e (some (.Name x pos')) pos.line X.env=pure false:=by rfl) (hf:v6 X x:=by first|exact .inl rfl|exact .inr rfl) (k7:kK X x=false:=by rfl):eV X (.Assign [.Name x pos'] e pos) (dG i f):=by
 obtain⟨t,p,q⟩:=he;exists 23,AL hN hi hx p hs hf;unfold dG at e;exists h,f ρ,w,e,0;obtain⟨d,tg⟩:=w;rw[h] at e;cases e;exists 59
 exact ok.stored s1 r1 g1 λz' aT=>k z' _ H1 aT (.set hi k7)
abbrev GF:=D->Tag->aO->Option aO
def FG(X:Cx)(tg:Expr)(g:GF)(is:List Nat):Prop:=(∀i∈is,∀x,X.N[i]? = some x->kK X x=false)/\∃t,PG X tg t/\∀{H0} {S} {z} {aq} {ρ} {σ} {H H1} {v} {d} {tag} {fp} {Q} {ρ'},
 Ok X.K H0 S z aq ρ σ H->aH H H1->Rep X.K H1 d v fp->cI z H tag fp->g d tag ρ=some ρ'->(∀z' az,Ok X.K H0 S z' aq ρ' az H1->(az.length=σ.length/\∀j,j∉is->az[j]? = σ[j]?)->Q az H1)->t v σ H1 Q
def gN(i:Nat):GF:=λd t ρ=>some (iB ρ i d t)
abbrev wL:=List D->aO->Option aO
theorem Kp.off{is:List Nat}(hk:∀i∈is,∀x,X.N[i]? = some x->kK X x=false)(h:∀j,j∉is->az[j]? = σ[j]?):Kp X σ az:=λi x e k=>h i λm=>by rw[hk i m x e] at k;cases k
def zZ(X:Cx)(ts:List Expr)(g:wL)(is:List Nat):Prop:=(∀i∈is,∀x,X.N[i]? = some x->kK X x=false)/\∃t,yu X ts t/\(∀ds ρ ρ',g ds ρ=some ρ'->ds.length=ts.length)/\∀{H0} {S} {z} {aq} {ρ} {σ} {H} {vs} {ds} {fp} {Q} {ρ'},
 Ok X.K H0 S z aq ρ σ H->aB X.K H ds vs fp->g ds ρ=some ρ'->(∀z' az,Ok X.K H0 S z' aq ρ' az H->(az.length=σ.length/\∀j,j∉is->az[j]? = σ[j]?)->Q az H)->t vs σ H Q
noncomputable def lS:wL:=λds ρ=>match ds with
 |[]=>some ρ
 |_=>none
def ez(g:GF)(gs:wL):wL:=λds ρ=>match ds with
 |d::r=>if aC d=true then(g d .own ρ).bind λρ'=>gs r ρ' else none
 |_=>none
theorem LD(e:ez g gs ds ρ=some ρ'):∃d r aS,ds=d::r/\aC d=true/\g d .own ρ=some aS/\gs r aS=some ρ':=by
 cases ds with
 |nil=>cases e
 |cons d r=>
  unfold ez at e;exists 70;exists 84;exists h,g d .own ρ,aS,e,0;rw[h,acV] at e;exact⟨d,r,aS,rfl,hi,h,e⟩
noncomputable def gT(gs:wL):GF:=λd _ ρ=>match d with
 |.tup ds=>gs ds ρ
 |_=>none
theorem bU(i:Nat)(hN:X.N.Nodup)(hi:X.N[i]? = some x:=by rfl)(hx:Loc X.env.scope x:=by first|exact Or.inl rfl|exact Or.inr rfl)(hf:v6 X x:=by first|exact .inl rfl|exact .inr rfl)(k7:kK X x=false:=by rfl):FG X (.Name x pos) (gN i) [i]:=by
 refine⟨λj m y e=>by rw[aa3.mp m,hi] at e;have e:=ab1 e;subst e;exact k7,_,Uk hN hi hx hf,@λH0 S z aq ρ σ H H1 v d tag fp Q ρ' ok s r g e k=>?_⟩;cases e;exact ok.stored s r g λz' aT=>k z' _ aT ⟨agq ..,λj hj=>acO λe=>hj (by rw[e];exact aar)⟩
theorem qv:zZ X [] lS []:=by
 refine⟨λj m=>(nomatch m),_,Yi,λds ρ ρ' e=>?_,@λH0 S z aq ρ σ H vs ds fp Q ρ' ok r e k=>?_⟩
 .cases ds with
  |nil=>rfl
  |cons _ _=>cases e
 .cases ds with
  |nil=>cases r;cases e;exact⟨rfl,k z σ ok ⟨rfl,λ_ _=>rfl⟩⟩
  |cons _ _=>cases e
theorem gI(h1:FG X e g is)(h2:zZ X es gs ks)(hs:(assignEach (e::es) X.env).map (·.2)=assign e X.env::(assignEach es X.env).map (·.2):=by rfl):zZ X (e::es) (ez g gs) (is++ks):=by
 obtain⟨n1,t,p,q⟩:=h1;obtain⟨n2,t',p',l',q'⟩:=h2;refine⟨λj m=>(abE.mp m).elim (n1 j) (n2 j),_,VJ p p' hs,λds ρ ρ' e=>?_,@λH0 S z aq ρ σ H vs ds fp Q ρ' ok r e k=>?_⟩
 .obtain⟨d,r,aS,rfl,_,_,h⟩:=LD e;rw[acf,acf,l' r aS ρ' h]
 .obtain⟨d,dr,aS,rfl,hi,h1,h2⟩:=LD e;cases r with
  | @cons _ v _ vr f1 f2 r1 r2=>
   have hn:=r1.aC hi;subst hn;exact⟨v,vr,rfl,q ok (aH.refl H) r1 .nil h1 λz1 oE bG a1=>q' bG r2 h2 λz2 iN nJ a2=>k z2 iN nJ ⟨a2.1.trans a1.1,λj hj=>(a2.2 j λm=>hj (aaV _ m)).trans (a1.2 j λm=>hj (abq _ m))⟩⟩
theorem pZ(hc:X.calm=true)(h:zZ X es gs is)(hn:(assignEach es X.env).length=es.length:=by rfl)(cX:(assignEach es X.env).findIdx? (·.1)=none:=by rfl):FG X (.Tuple es k pos) (gT gs) is:=by
 obtain⟨n1,t,p,l,q⟩:=h;refine⟨n1,_,Wg hc p hn cX,@λH0 S z aq ρ σ H H1 v d tag fp Q ρ' ok s r g e k=>?_⟩;cases r with
 | @tup a xs ds fp hq rs=>
  have e:=e;exact⟨a,xs,rfl,hq,by rw[<- rs.length];exact l ds ρ ρ' e,q (ok.same s) rs e k⟩
 |_=>cases e
structure Hv where
 d:D
 v:V
 fp:List Addr
def tG(K:PySem.W.Frag)(J:It)(ds:List D)(hv:List Hv):Prop:=∀(H) (i),(∀h∈hv,Rep K H h.d h.v h.fp)->
 (∀d,ds[i]? = some d->J.go i H/\∀x H1,J.wX i H x H1->aH H H1/\∃fp,Rep K H1 d x fp/\∀a∈fp,∃h∈hv,a∈h.fp)/\(ds.length<=i->J.stop i H)
abbrev IF:=aO->Option (List D×Tag)
def FI(X:Cx)(tg iter:Expr)(f:IF):Prop:=∃wi,PI X tg iter wi/\∀{H0} {S} {z} {aq} {ρ} {σ} {H} {R} {ds} {t},
 Ok X.K H0 S z aq ρ σ H->f ρ=some (ds,t)->(∀H1 J hv,aH H H1->(∀h∈hv,Rep X.K H1 h.d h.v h.fp/\∀a∈h.fp,∀j,z a=some j->∃o,t=.sh o/\j∈o)->tG X.K J ds hv->R J H1)->wi σ H R
noncomputable def iC(f:EF):IF:=λρ=>match f ρ with
 |some (.lst ds,t)=>some (ds,t)
 |some (.gG ds,t)=>some (ds,t)
 |some (.tup ds,t)=>some (ds,t)
 |_=>none
def UD(K:PySem.W.Frag)(tl:TE):TI:=λσ H R=>tl σ H λx H1=>∃a,x=.ref a/\(((∃xs,bZ K H1 a xs)/\R (B9 K a) H1)\/((∃xs,ck K H1 a xs)/\R (J_ K a) H1))
theorem adq(hl:PE X l tl):PI X tg l (UD X.K tl):=by
 intro af s σ H R I h;refine aM (hl af s σ H _ I h) λv s1 ⟨x,H1,I1,r1,q1⟩=>?_
 obtain⟨a,e,q⟩:=q1;subst e;cases r1;rcases q with⟨⟨xs,hq⟩,q⟩|⟨⟨xs,hq⟩,q⟩
 .obtain⟨au,rv,p,hz⟩:=I1.list hq;refine wpAny_pyIter_list p.isList ?_;refine⟨s1.heap.objs.size,[s1.heap.objs.size],_,_,H1,rfl,I1.kept (λb o e=>aaT _ e),Yg a _,⟨_,ab3 _ rfl,rfl,rfl⟩,λb hb=>?_,q⟩;obtain rfl:b=s1.heap.objs.size:=by simpa using hb
  exact I1.sW (abT _) (I1.aE.fresh (abT _))
 .obtain⟨au,rv,p,hz⟩:=I1.tuple hq;refine wpAny_pyIter_tuple (show s1.heap.IsTuple a au.toArray from p) ?_;refine⟨s1.heap.objs.size,[s1.heap.objs.size],_,_,H1,rfl,I1.kept (λb o e=>aaT _ e),acy a _,⟨_,ab3 _ rfl,rfl,rfl⟩,λb hb=>?_,q⟩;obtain rfl:b=s1.heap.objs.size:=by simpa using hb
  exact I1.sW (abT _) (I1.aE.fresh (abT _))
theorem Rep.dY{K:PySem.W.Frag}(r:Rep K H (.lst ds) v fp):∃a xs f,v=.ref a/\bZ K H a xs/\aB K H ds xs f/\∀b∈f,b∈fp:=by
 cases r with
 |lst h rs=>exact⟨_,_,_,rfl,bZ.of h,rs,λb m=>aaa _ m⟩
theorem Rep.rK{K:PySem.W.Frag}(r:Rep K H (.gG ds) v fp):∃a xs,v=.ref a/\bZ K H a xs/\aB K H ds xs fp:=by
 cases r with
 |Av h rs=>exact⟨_,_,rfl,h.sq,rs⟩
theorem Rep.i8{K:PySem.W.Frag}(r:Rep K H (.tup ds) v fp):∃a xs,v=.ref a/\ck K H a xs/\aB K H ds xs fp:=by
 cases r with
 |tup h rs=>exact⟨_,_,rfl,h,rs⟩
theorem WS{K:PySem.W.Frag}:tG K (B9 K a) ds [⟨.lst ds,.ref a,fp⟩]:=by
 intro H i hh;have r:=hh ⟨.lst ds,.ref a,fp⟩ aar;obtain⟨a',xs,f,e,hq,rs,sub⟩:=r.dY;cases e;exists 71;obtain⟨v,f',hv,rv,s'⟩:=rs.get hd;refine⟨⟨xs,v,hq,hv⟩,λx H1 y=>?_⟩;obtain⟨e1,y⟩:=y;subst e1;have e2:=y xs hq;rw[hv] at e2;cases e2;exact⟨aH.refl _,f',rv,λb m=>⟨_,aar,sub b (s' b m)⟩⟩
theorem acM{K:PySem.W.Frag}:tG K (B9 K a) ds [⟨.gG ds,.ref a,fp⟩]:=by
 intro H i hh;have r:=hh ⟨.gG ds,.ref a,fp⟩ aar;obtain⟨a',xs,e,hq,rs⟩:=r.rK;cases e;exists 71;obtain⟨v,f',hv,rv,s'⟩:=rs.get hd;refine⟨⟨xs,v,hq,hv⟩,λx H1 y=>?_⟩;obtain⟨e1,y⟩:=y;subst e1;have e2:=y xs hq;rw[hv] at e2;cases e2;exact⟨aH.refl _,f',rv,λb m=>⟨_,aar,s' b m⟩⟩
theorem VV{K:PySem.W.Frag}:tG K (J_ K a) ds [⟨.tup ds,.ref a,fp⟩]:=by
 intro H i hh;have r:=hh ⟨.tup ds,.ref a,fp⟩ aar;obtain⟨a',xs,e,hq,rs⟩:=r.i8;cases e;exists 71;obtain⟨v,f',hv,rv,s'⟩:=rs.get hd;refine⟨⟨xs,v,hq,hv⟩,λx H1 y=>?_⟩;obtain⟨e1,y⟩:=y;subst e1;have e2:=y xs hq;rw[hv] at e2;cases e2;exact⟨aH.refl _,f',rv,λb m=>⟨_,aar,s' b m⟩⟩
theorem Mw{K:PySem.W.Frag}{lo:Int}:tG K (xA lo n) ((List.range n).map λi:Nat=>D.int (lo+(i:Int))) []:=by
 intro H i _;refine⟨λd hd=>?_,λhl=>?_⟩
 .rw[aco] at hd
  by_cases hi:i<n
  .rw[List.getElem?_range hi] at hd;cases hd;refine⟨hi,λx H1 y=>?_⟩;obtain⟨e1,e2⟩:=y;subst e1 e2;exact⟨aH.refl _,[],.int _,λb m=>nomatch m⟩
  .rw[List.getElem?_eq_none (by simpa using hi)] at hd;cases hd
 .rw[List.length_map,ahk] at hl;exact hl
theorem cI.over{K:PySem.W.Frag}(ok:Ok K H0 S z aq ρ σ H)(g:cI z H t fp):∀a∈fp,∀j,z a=some j->∃o,t=.sh o/\j∈o:=by
 intro a m j q;cases t with
 |sh o=>exact⟨o,rfl,g a m j q⟩
 |own=>obtain⟨⟨o,w⟩,_⟩:=ok.zd a j q;rw[g.2 a m] at w;cases w
 |lk=>obtain⟨⟨o,w⟩,_⟩:=ok.zd a j q;rw[g.2 a m] at w;cases w
theorem e_{l:Expr}{f:EF}(hl:FP X l f):FI X tg l (iC f):=by
 obtain⟨t,p,q⟩:=hl;exists 24,adq p;unfold iC at e;exists h,f ρ,w,e,0;obtain⟨d,P5⟩:=w;rw[h] at e;cases d with
 |lst es=>
  cases e;exists 59
  obtain⟨a,xs,f,rfl,hq,rs,sub⟩:=r1.dY;exact⟨a,rfl,.inl ⟨⟨xs,hq⟩,k H1 _ [⟨.lst ds,.ref a,fp⟩] s1 (λh m=>by cases aa3.mp m;exact⟨r1,g1.over ok⟩) WS⟩⟩
 |gG es=>
  cases e;exists 59
  obtain⟨a,xs,rfl,hq,rs⟩:=r1.rK;exact⟨a,rfl,.inl ⟨⟨xs,hq⟩,k H1 _ [⟨.gG ds,.ref a,fp⟩] s1 (λh m=>by cases aa3.mp m;exact⟨r1,g1.over ok⟩) acM⟩⟩
 |tup es=>
  cases e;exists 59
  obtain⟨a,xs,rfl,hq,rs⟩:=r1.i8;exact⟨a,rfl,.inr ⟨⟨xs,hq⟩,k H1 _ [⟨.tup ds,.ref a,fp⟩] s1 (λh m=>by cases aa3.mp m;exact⟨r1,g1.over ok⟩) VV⟩⟩
 |_=>cases e
noncomputable def small(i:Int):Bool:=decide (-(2 ^ 62)<=i)&&decide (i<2 ^ 62)
def xD(g:EF):IF:=λρ=>match g ρ with
 |some (.int j,_)=>if small j=true then some ((List.range j.toNat).map λi:Nat=>D.int (0+(i:Int)),.own) else none
 |_=>none
def pK(f g:EF):IF:=λρ=>match f ρ,g ρ with
 |some (.int i,_),some (.int j,_)=>if(small i&&small j)=true then some ((List.range (j-i).toNat).map λk:Nat=>D.int (i+(k:Int)),.own) else none
 |_,_=>none
theorem uG(h:small i=true):-(2 ^ 62)<=i/\i<2 ^ 62:=by
 obtain⟨a,b⟩:=(abn _ _).mp h;exact⟨abd a,abd b⟩
theorem RA(hm:X.mg "range"=none)(ha:FP X a g)(hg:Gl X "range":=by rfl)(hs:Y2 X a:=by rfl):FI X tg (.Call (.Name "range" p) [a] [] pos) (xD g):=by
 obtain⟨t,pa,q⟩:=ha;exists 24,Wi hg hm (cP pa eT hs) hs;unfold xD at e;exists h,g ρ,w,e,0;obtain⟨d,P5⟩:=w;rw[h] at e;cases d with
 |int j=>
  exists 70;obtain⟨hj,e⟩:=ci e;cases e;exists 59
  cases r1;exact⟨j,rfl,(uG hj).1,(uG hj).2,k H1 _ [] s1 (λh m=>nomatch m) Mw⟩
 |_=>cases e
theorem CB(hm:X.mg "range"=none)(ha:FP X a f)(hb:FP X b g)(hg:Gl X "range":=by rfl)(hs:starEach [a,b] X.env=[(false,eval a X.env),(false,eval b X.env)]:=by rfl)(cJ:Y2 X b:=by rfl):
  FI X tg (.Call (.Name "range" p) [a,b] [] pos) (pK f g):=by
 obtain⟨t,pa,q⟩:=ha;obtain⟨t',pb,q'⟩:=hb;exists 24,Ul hg hm (cP pa (cP pb eT cJ) (by rw[hs,cJ])) hs cJ;unfold pK at e;exists h,f ρ,w,e,0;obtain⟨d,P5⟩:=w;cases h2:g ρ with
 |none=>rw[h,h2] at e;cases d<;>cases e
 |some w=>
  obtain⟨d2,tg2⟩:=w;rw[h,h2] at e;cases d with
  |int i=>
   cases d2 with
   |int j=>
    exists 70;obtain⟨hj,e⟩:=ci e;cases e;obtain⟨si,sj⟩:=(abn _ _).mp hj;exists 59
    cases r1;refine q' (ok.same s1) h2 λH2 v fp s2 r2 g2=>?_
    cases r2;exact⟨i,j,rfl,⟨(uG si).1,(uG si).2,(uG sj).1,(uG sj).2⟩,k H2 _ [] (s1.trans s2) (λh m=>nomatch m) Mw⟩
   |_=>cases e
  |_=>cases e
noncomputable def lD:Tag->List Nat
 |.sh o=>o
 |_=>[]
def k_(t:Tag):Tag:=.sh (lD t)
noncomputable def ownAt(ρ:aO)(j:Nat):Bool:=match ρ[j]? with
 |some (some (_,.own))=>true
 |_=>false
def mK(o:List Nat)(ρ:aO):List Nat:=o.filter (ownAt ρ)
noncomputable def NX:Tag->Tag
 |.own=>.lk
 |t=>t
noncomputable def Qf:Tag->Tag
 |.lk=>.own
 |t=>t
noncomputable def zS(f:Tag->Tag):Slot->Slot
 |some (d,t)=>some (d,f t)
 |none=>none
def nX:List Nat->aO->aO
 |[],ρ=>ρ
 |j::r,ρ=>nX r (ρ.modify j (zS NX))
def sA:List Nat->aO->aO
 |[],ρ=>ρ
 |j::r,ρ=>sA r (ρ.modify j (zS Qf))
noncomputable def dh(g:GF)(t:Tag)(f:SF):List D->SF
 |[],ρ=>some (.nx ρ)
 |d::ds,ρ=>match g d t ρ with
  |none=>none
  |some aS=>match f aS with
   |some (.nx bh)=>dh g t f ds bh
   |some (.ct bh)=>dh g t f ds bh
   |some (.bk bh)=>some (.nx bh)
   |some (.rt r)=>some (.rt r)
   |some (.er raw cn bh)=>some (.er raw cn bh)
   |none=>none
def jk(it:IF)(g:GF)(f:SF):SF:=λρ=>match it ρ with
 |none=>none
 |some (ds,t)=>match dh g (k_ t) f ds (nX (mK (lD t) ρ) ρ) with
  |some (.nx ρ')=>some (.nx (sA (mK (lD t) ρ) ρ'))
  |some (.rt d)=>some (.rt d)
  |some (.er raw cn ρ')=>some (.er raw cn (sA (mK (lD t) ρ) ρ'))
  |_=>none
theorem Ct:∀{ks} {ρ} {i} {d} {t},(nX ks ρ)[i]? = some (some (d,t))->∃t',ρ[i]? = some (some (d,t'))/\(t=t'\/(t'=.own/\t=.lk))/\(i∈ks->t≠.own)
 |[],ρ,i,d,t,h=>⟨t,h,.inl rfl,λm=>nomatch m⟩
 |j::r,ρ,i,d,t,h=>by
  obtain⟨t1,h1,h2,h3⟩:=Ct (ks:=r) h;rw[List.getElem?_modify] at h1;exists e,ρ[i]?,s,h1;have ie:(if j=i then zS NX s else s)=some (d,t1):=ab1 h1
  by_cases hj:j=i
  .rw[if_pos hj] at ie;cases s with
   |none=>cases ie
   |some p=>
    obtain⟨d0,t0⟩:=p;cases ie;refine⟨t0,rfl,?_,λ_=>?_⟩
    .rcases h2 with h2|⟨h2,mO⟩
     .cases t0<;>first|exact .inl h2|exact .inr ⟨rfl,h2⟩
     .cases t0<;>cases h2
    .rcases h2 with h2|⟨h2,mO⟩
     .rw[h2];cases t0<;>(intro z;cases z)
     .rw[mO];intro z;cases z
  .rw[if_neg hj] at ie;subst ie;refine⟨t1,rfl,h2,λm=>?_⟩;rcases abb.mp m with z|z
   .exact absurd z.symm hj
   .exact h3 z
theorem M7:∀{ks} {ρ},(nX ks ρ).length=ρ.length
 |[],_=>rfl
 |_::r,ρ=>(M7 (ks:=r)).trans (List.length_modify ..)
theorem OQ:∀{ks} {ρ},(sA ks ρ).length=ρ.length
 |[],_=>rfl
 |_::r,ρ=>(OQ (ks:=r)).trans (List.length_modify ..)
theorem JS:∀{ks} {ρ} {i} {d} {t},(sA ks ρ)[i]? = some (some (d,t))->∃t',ρ[i]? = some (some (d,t'))/\(t=t'\/(t'=.lk/\t=.own/\i∈ks))
 |[],ρ,i,d,t,h=>⟨t,h,.inl rfl⟩
 |j::r,ρ,i,d,t,h=>by
  obtain⟨t1,h1,h2⟩:=JS (ks:=r) h;rw[List.getElem?_modify] at h1;exists e,ρ[i]?,s,h1;have ie:(if j=i then zS Qf s else s)=some (d,t1):=ab1 h1
  by_cases hj:j=i
  .rw[if_pos hj] at ie;cases s with
   |none=>cases ie
   |some p=>
    obtain⟨d0,t0⟩:=p;cases ie;refine⟨t0,rfl,?_⟩;rcases h2 with h2|⟨h2,mO,h3⟩
    .cases t0<;>first|exact .inl h2|exact .inr ⟨rfl,h2,by rw[hj];exact aar⟩
    .cases t0<;>cases h2
  .rw[if_neg hj] at ie;subst ie;refine⟨t1,rfl,?_⟩;rcases h2 with h2|⟨h2,mO,h3⟩
   .exact .inl h2
   .exact .inr ⟨h2,mO,aaa _ h3⟩
noncomputable def uA(z:Addr->Option Nat)(hv:List Hv):List qS:=hv.map λh=>⟨h.d,h.v,h.fp,z⟩
noncomputable def yV(z:Addr->Option Nat)(aq:List qS):List qS:=aq.map λh=>{ h with z0:=z }
section
variable{K:PySem.W.Frag}
theorem Ok.begin(ok:Ok K H0 S z aq ρ σ H)(hh:∀h∈hv,Rep K H h.d h.v h.fp/\∀a∈h.fp,∀j,z a=some j->∃o,t=.sh o/\j∈o):
  Ok K H0 S z (uA z hv++yV z aq) (nX (mK (lD t) ρ) ρ) σ H:=by
 refine⟨λi d tg e=>?_,λp m=>?_,ok.zd,ok.en,by rw[M7];exact ok.ln⟩
 .obtain⟨t',e',h,_⟩:=Ct e;obtain⟨v,fp,a,b,c⟩:=ok.sl i d t' e';refine⟨v,fp,a,b,?_⟩;rcases h with h|⟨h,h'⟩
  .subst h;exact c
  .subst h h';exact c
 .have acr:∀j,uF ρ j->uF (nX (mK (lD t) ρ) ρ) j:=λj n d e=>by
   obtain⟨t',e',h,_⟩:=Ct e;rcases h with h|⟨h,h'⟩
   .subst h;exact n d e'
   .cases h'
  rcases abE.mp m with m|m
  .obtain⟨h,hm,rfl⟩:=abX.mp m;refine⟨(hh h hm).1,λa ha j q=>⟨q,λd e=>?_⟩⟩;obtain⟨o,rfl,hj⟩:=(hh h hm).2 a ha j q;obtain⟨t',e',h',n⟩:=Ct e;rcases h' with h'|⟨h',zu⟩
   .subst h';exact n (acL.mpr ⟨hj,by unfold ownAt;rw[e']⟩) rfl
   .cases zu
  .obtain⟨h,hm,rfl⟩:=abX.mp m;obtain⟨r,hz⟩:=ok.hl h hm;exact⟨r,λa ha j q=>⟨q,acr j (hz a ha j q).2⟩⟩
theorem Ok.fin(ok:Ok K H0 S z aq ρ σ H)(aT:Ok K H0 S z' (uA z hv++yV z aq) ρ' az H'):Ok K H0 S z' aq (sA (mK (lD t) ρ) ρ') az H':=by
 refine⟨λi d tg e=>?_,λp m=>?_,aT.zd,aT.en,by rw[OQ];exact aT.ln⟩
 .obtain⟨t',e',h⟩:=JS e;obtain⟨v,fp,a,b,c⟩:=aT.sl i d t' e';refine⟨v,fp,a,b,?_⟩;rcases h with h|⟨h,h',_⟩
  .subst h;exact c
  .subst h h';exact c
 .obtain⟨r,hz⟩:=aT.hl { p with z0:=z } (aaV _ (abX.mpr ⟨p,m,rfl⟩));refine⟨r,λa ha j q=>?_⟩;obtain⟨h1,h2⟩:=hz a ha j q;have h1:=h1;obtain⟨h3,h4⟩:=(ok.hl p m).2 a ha j h1;refine⟨h3,λd e=>?_⟩;obtain⟨t',e',h⟩:=JS e;rcases h with h|⟨h,_,hk⟩
  .subst h;exact h2 d e'
  .have ho:=(acL.mp hk).2;unfold ownAt at ho;exists e0,ρ[j]?,s,ho;cases s with
   |none=>cases ho
   |some p=>
    obtain⟨d0,t0⟩:=p;cases t0<;>first|exact h4 d0 e0|cases ho
end
theorem jA(hc:X.calm=true)(hi:FI X tg iter it)(hg:FG X tg g is)(hb:FS X body f)(hp:PassesOwn (model X.prog X.w) X.A X.env X.xe:=by exact PassesOwn.never)
  (hs:∀x,foldedSetIterable iter X.env x=pure x:=by intro _;rfl):eV X (.For tg iter body [] pos) (jk it g f):=by
 obtain⟨wi,pi,si⟩:=hi;obtain⟨n1,tgt,pg,sg⟩:=hg;obtain⟨tb,pb,sb⟩:=hb;exists 23,ae4 hp hc pi pg pb hs;unfold jk at e;exists h,it ρ,w,e,0;obtain⟨ds,t⟩:=w;rw[h] at e;exists 70;refine si ok h λH1 J hv s1 hh Jq=>?_
 exists ho,dh g (k_ t) f ds (nX (mK (lD t) ρ) ρ),out,e;have bG:=ok.same s1;have nJ:=bG.begin hh;have fin:∀{z'} {ρ'} {az} {H'},Ok X.K H0 S z' (uA z hv++yV z aq) ρ' az H'->out=.nx ρ'->Kp X σ az->E.nx az H':=λ{z' ρ' az H'} aT eo kp=>by
  subst eo;cases e;exact k z' az H' (bG.fin aT) kp
 refine⟨λi m az H'=>m=ds.length-i/\∃z' ρ',Ok X.K H0 S z' (uA z hv++yV z aq) ρ' az H'/\dh g (k_ t) f (ds.drop i) ρ'=some out/\Kp X σ az,⟨ds.length,rfl,z,_,nJ,ho,.refl _ _⟩,?_⟩
 rintro i m az H' ⟨rfl,z',ρ',aT,e',kp⟩
 have hH:∀h∈hv,Rep X.K H' h.d h.v h.fp:=λh m=>(aT.hl _ (abq _ (abX.mpr ⟨h,m,rfl⟩))).1
 obtain⟨go,stop⟩:=Jq H' i hH
 by_cases hl:ds.length<=i
 .refine .inl ⟨stop hl,?_⟩;rw[List.drop_eq_nil_of_le hl] at e';cases e';exact fin aT rfl kp
 .have cU:=Nat.lt_of_not_le hl;rw[ag5 cU] at e';obtain⟨g1,g2⟩:=go ds[i] (abp cU);refine .inr ⟨g1,λiN H2=>∃z' ρ',Ok X.K H0 S z' (uA z hv++yV z aq) ρ' iN H2/\dh g (k_ t) f (ds.drop (i+1)) ρ'=some out/\Kp X σ iN,λiN H2 hn=>⟨ds.length-(i+1),by omega,rfl,hn⟩,λx H2 y=>?_⟩;obtain⟨s2,fp,r2,sub⟩:=g2 x H2 y;unfold dh at e';cases sO:g ds[i] (k_ t) ρ' with
  |none=>rw[sO] at e';cases e'
  |some aS=>
   rw[sO] at e';dsimp only at e';refine sg (tag:=k_ t) aT s2 r2 (λa ha j q=>?_) sO λz2 iN iV a3=>?_
   .obtain⟨h,hm,RG⟩:=sub a ha;obtain⟨_,hz⟩:=aT.hl _ (abq _ (abX.mpr ⟨h,hm,rfl⟩));obtain⟨q0,_⟩:=hz a RG j q;obtain⟨o',rfl,hj⟩:=(hh h hm).2 a RG j q0;exact hj
   .cases hf:f aS with
    |none=>rw[hf] at e';cases e'
    |some o1=>
     rw[hf] at e';refine sb iV hf ?_;cases o1 with
     |nx bh=>exact λz3 cT H3 iU b=>⟨z3,bh,iU,e',(kp.trans (.off n1 a3.2)).trans b⟩
     |ct bh=>exact λz3 cT H3 iU b=>⟨z3,bh,iU,e',(kp.trans (.off n1 a3.2)).trans b⟩
     |bk bh=>
      cases e';exact λz3 cT H3 iU b=>fin iU rfl ((kp.trans (.off n1 a3.2)).trans b)
     |rt d=>
      cases e';cases e;exact k
     |er raw cn bh=>
      cases e';cases e;obtain⟨ES,th,q⟩:=k;exact⟨ES,th,λz3 cT H3 C iU b hC=>q z3 cT H3 C (bG.fin iU) ((kp.trans (.off n1 a3.2)).trans b) hC⟩
noncomputable def iF(c:TF)(f:SF):Nat->SF
 |0,_=>none
 |n+1,ρ=>match c ρ with
  |some false=>some (.nx ρ)
  |some true=>match f ρ with
   |some (.nx ρ')=>iF c f n ρ'
   |some (.ct ρ')=>iF c f n ρ'
   |some (.bk ρ')=>some (.nx ρ')
   |some (.rt d)=>some (.rt d)
   |some (.er raw cn ρ')=>some (.er raw cn ρ')
   |none=>none
  |none=>none
theorem QD(n:Nat)(hc:FT X c tc)(hb:FS X body f)(hp:PassesOwn (model X.prog X.w) X.A X.env X.xe:=by exact PassesOwn.never):eV X (.While c body [] pos) (iF tc f n):=by
 obtain⟨t,p,q⟩:=hc;obtain⟨tb,pb,qb⟩:=hb;exists 23,Ow hp p pb;refine⟨λm az H'=>∃z' ρ',Ok X.K H0 S z' aq ρ' az H'/\iF tc f m ρ'=some o/\Kp X σ az,⟨n,z,ρ,ok,e,.refl _ _⟩,?_⟩
 rintro m az H' ⟨z',ρ',aT,e',kp⟩
 cases m with
 |zero=>cases e'
 |succ m=>
  unfold iF at e';exists hc,tc ρ',b,e';refine q aT hc λH1 s1=>?_
  cases b with
  |false=>
   cases e';rw[if_neg abz];exact k z' az H1 (aT.same s1) kp
  |true=>
   rw[if_pos rfl];dsimp only at e';exists hf,f ρ',o1,e';refine⟨λiN H2=>∃z2 bh,Ok X.K H0 S z2 aq bh iN H2/\iF tc f m bh=some o/\Kp X σ iN,λiN H2 hn=>⟨m,agP m,hn⟩,?_⟩;refine qb (aT.same s1) hf ?_;cases o1 with
   |nx bh=>exact λz3 cT H3 iU b=>⟨z3,bh,iU,e',kp.trans b⟩
   |ct bh=>exact λz3 cT H3 iU b=>⟨z3,bh,iU,e',kp.trans b⟩
   |bk bh=>
    cases e';exact λz3 cT H3 iU b=>k z3 cT H3 iU (kp.trans b)
   |rt d=>
    cases e';exact k
   |er raw cn bh=>
    cases e';obtain⟨ES,th,q⟩:=k;exact⟨ES,th,λz3 cT H3 C iU b hC=>q z3 cT H3 C iU (kp.trans b) hC⟩
def HB(K:PySem.W.Frag)(f:EF):TE:=λσ H Q=>∃H0 S z aq ρ d tg,Ok K H0 S z aq ρ σ H/\f ρ=some (d,tg)/\∀H' v fp,aH H H'->Rep K H' d v fp->cI z H tg fp->Q v H'
def xq(K:PySem.W.Frag)(f:TF):TT:=λσ H Q=>∃H0 S z aq ρ b,Ok K H0 S z aq ρ σ H/\f ρ=some b/\∀H',aH H H'->Q b H'
def E_(K:PySem.W.Frag)(g:GF)(is:List Nat):TG:=λv σ H1 Q=>∃H0 S z aq ρ H d tag fp ρ',Ok K H0 S z aq ρ σ H/\aH H H1/\Rep K H1 d v fp/\cI z H tag fp/\g d tag ρ=some ρ'/\
 ∀z' az,Ok K H0 S z' aq ρ' az H1->(az.length=σ.length/\∀j,j∉is->az[j]? = σ[j]?)->Q az H1
theorem FP.pe(h:FP X e f):PE X e (HB X.K f):=by
 obtain⟨t,p,q⟩:=h
 rintro af s σ H Q I ⟨H0,S,z,aq,ρ,d,tg,ok,e,k⟩
 exact p af s σ H Q I (q ok e k)
theorem FT.pt(h:FT X e f):PT X e (xq X.K f):=by
 obtain⟨t,p,q⟩:=h
 rintro af s σ H Q I ⟨H0,S,z,aq,ρ,b,ok,e,k⟩
 exact p af s σ H Q I (q ok e k)
theorem FG.pg(h:FG X e g is):PG X e (E_ X.K g is):=by
 obtain⟨_,t,p,q⟩:=h
 rintro af s σ H1 v u Q I r ⟨H0,S,z,aq,ρ,H,d,tag,fp,ρ',ok,sm,rp,tk,e,k⟩
 exact p af s σ H1 v u Q I r (q ok sm rp tk e k)
def Ab(X:Cx)(ifs:List Expr)(f:TF):Prop:=wY X ifs (xq X.K f)
noncomputable def um:TF:=λ_=>some true
theorem mG:Ab X [] um:=by
 rintro af s σ H Q I ⟨H0,S,z,aq,ρ,b,ok,e,k⟩
 cases e;exact wpAny_tests_nil ⟨H,I,k H (aH.refl H)⟩
theorem oG(h:FT X c f):Ab X [c] f:=aad h.pt
noncomputable def ju(js:List (Option Nat))(ρ:aO):aO:=js.map λj=>match j with
 |none=>none
 |some j=>match ρ[j]? with
  |some (some (d,_))=>some (d,.sh [])
  |_=>none
def iW(g:GF)(tt:TF)(te:EF)(ρ:aO)(d:D):Option (Option D):=match g d (.sh []) ρ with
 |none=>none
 |some aS=>match tt aS with
  |none=>none
  |some false=>some none
  |some true=>match te aS with
   |none=>none
   |some (e,t)=>if jT t=true then some (some e) else if aC e=true then some (some e) else none
noncomputable def nQ(h:D->Option (Option D)):List D->Option (List D)
 |[]=>some []
 |d::ds=>match h d with
  |none=>none
  |some none=>nQ h ds
  |some (some e)=>match nQ h ds with
   |none=>none
   |some es=>some (e::es)
def iX(js:List (Option Nat))(it:IF)(g:GF)(tt:TF)(te:EF):EF:=λρ=>match it ρ with
 |none=>none
 |some (ds,_)=>if ds.length<sizeLine then(nQ (iW g tt te (ju js ρ)) ds).map λes=>(.lst es,.own) else none
theorem LQ:∀{ds},(∀d∈ds,h d=some (k d))->nQ h ds=some (ds.filterMap k)
 |[],_=>rfl
 |d::ds,e=>by
  unfold nQ;rw[e d aar,LQ λx m=>e x (aaa _ m),aen];cases k d<;>rfl
section
variable{X:Cx}
theorem R4(zy:∀i∈is,js[i]? = some none)
  (si:∀{H0} {S} {z} {aq} {ρ} {σ} {H} {R} {ds} {t},
   Ok X.K H0 S z aq ρ σ H->it ρ=some (ds,t)->(∀H1 J hv,aH H H1->(∀h∈hv,Rep X.K H1 h.d h.v h.fp/\∀a∈h.fp,∀j,z a=some j->∃o,t=.sh o/\j∈o)->tG X.K J ds hv->R J H1)->wi σ H R)
  (ok:Ok X.K H0 S z aq ρ σ H) (e:iX js it g tt te ρ=some (d,tg))
  (k:∀H' v fp,aH H H'->Rep X.K H' d v fp->cI z H tg fp->Q v H'):Ga wi js (E_ X.K g is) (xq X.K tt) (HB X.K te) σ H Q:=by
 unfold iX at e;cases h:it ρ with
 |none=>rw[h] at e;cases e
 |some w=>
  obtain⟨ds,t⟩:=w;rw[h] at e;exists 70
  by_cases hz:ds.length<sizeLine
  .rw[if_pos hz] at e;cases DB:nQ (iW g tt te (ju js ρ)) ds with
   |none=>rw[DB] at e;cases e
   |some es=>
    rw[DB] at e;cases e;refine si ok h λH1 J hv s1 hh Jq Dd uK=>?_
    have bG:=ok.same s1;have inner:∀(az) (H2),aH H1 H2->(∃o,H2 Dd=some o)->az.length=js.length->(∀j,j∉is->az[j]? = (lB js σ)[j]?)->Ok X.K H1 [] (λa=>if a=Dd then some js.length else none) (uA (λ_=>none) hv) (ju js ρ) az H2:=by
     intro az H2 s2 Ek hlen BJ;have nD:∀{a} {o},H1 a=some o->a≠Dd:=λe=>cV e uK
     refine⟨λi d t e=>?_,λp m=>?_,λa j e=>?_,λa o e _=>s2 _ _ e,by unfold ju;rw[List.length_map,hlen]⟩
     .unfold ju at e;rw[aco] at e;cases hj:js[i]? with
      |none=>rw[hj] at e;cases e
      |some o=>
       rw[hj] at e;cases o with
       |none=>cases e
       |some j=>
        have e:(match ρ[j]? with|some (some (d,_))=>some (d,Tag.sh [])|_=>none)=some (d,t):=ab1 e;cases hr:ρ[j]? with
        |none=>rw[hr] at e;cases e
        |some s=>
         rw[hr] at e;cases s with
         |none=>cases e
         |some p=>
          obtain⟨d0,t0⟩:=p;have e1:d0=d/\Tag.sh []=t:=Prod.mk.inj (ab1 e);obtain⟨rfl,rfl⟩:=e1;obtain⟨v,fp,hs,r,_⟩:=bG.sl j d0 t0 hr;have hi:i∉is:=λm=>by rw[zy i m] at hj;cases hj
          refine⟨v,fp,?_,r.same s2,λa m q e=>?_⟩
          .rw[BJ i hi];unfold lB;rw[aco,hj];show some ((σ[j]?).join)=some (some v);rw[hs];rfl
          .obtain⟨o,w,_⟩:=r.cC a m;exists 70;rw[if_neg (nD w)] at e;cases e
     .obtain⟨h,hm,rfl⟩:=abX.mp m;refine⟨(hh h hm).1.same s2,λa ha q e=>?_⟩;obtain⟨o,w,_⟩:=(hh h hm).1.cC a ha;rw[if_neg (nD w)] at e;cases e
     .by_cases w:a=Dd
      .rw[w];exact⟨Ek,.inl uK⟩
      .rw[if_neg w] at e;cases e
    refine⟨λi m az H'=>m=ds.length - i/\aH H1 H'/\az.length=js.length/\(∀j,j∉is->az[j]? = (lB js σ)[j]?)/\∃done rest vs fp,H' Dd=some (.lst vs)/\aB X.K H' done vs fp/\fp.Nodup/\(∀a∈fp,H1 a=none/\a≠Dd)/\
     nQ (iW g tt te (ju js ρ)) (ds.drop i)=some rest/\done++rest=es/\done.length<=i,?_,?_⟩
    .refine⟨ds.length,rfl,λb o e=>by rw[aP (cV e uK)];exact e,by unfold lB;rw[List.length_map],λ_ _=>rfl,[],es,[],[],cB,.nil,acj,(λa m=>nomatch m),DB,rfl,abT _⟩
    .rintro i m az H' ⟨rfl,sH,hlen,BJ,done,rest,vs,fp,hD,rs,nd,fr,hr,rfl,hle⟩
     obtain⟨go,stop⟩:=Jq H' i λh m=>(hh h m).1.same sH
     by_cases hl:ds.length<=i
     .refine .inl ⟨stop hl,?_⟩;rw[List.drop_eq_nil_of_le hl] at hr;cases hr;rw[acE] at k;refine k H' (.ref Dd) (Dd::fp) (s1.trans sH) (.lst hD rs) ⟨abV.mpr ⟨λm=>(fr Dd m).2 rfl,nd⟩,λa m=>?_⟩;rcases abb.mp m with e|m
      .rw[e];exact s1.free uK
      .exact s1.free (fr a m).1
     .have cU:i<ds.length:=Nat.lt_of_not_le hl;rw[ag5 cU] at hr;obtain⟨g1,g2⟩:=go ds[i] (abp cU);refine .inr ⟨g1,λx H2 y=>?_⟩;obtain⟨s2,l9,r2,sub⟩:=g2 x H2 y;have nJ:=inner az H' sH ⟨_,hD⟩ hlen BJ;unfold nQ at hr;cases hE:iW g tt te (ju js ρ) ds[i] with
      |none=>rw[hE] at hr;cases hr
      |some oe=>
       rw[hE] at hr;unfold iW at hE;cases sO:g ds[i] (.sh []) (ju js ρ) with
       |none=>rw[sO] at hE;cases hE
       |some aS=>
        rw[sO] at hE;dsimp only at hE;have Wn:cI (λa=>if a=Dd then some js.length else none) H' (.sh []) l9:=λa m j e=>by
         obtain⟨h,hm,ha⟩:=sub a m;obtain⟨o,w,_⟩:=(hh h hm).1.cC a ha;exists 70;rw[if_neg (cV w uK)] at e;cases e
        refine⟨H1,[],_,_,ju js ρ,H',ds[i],.sh [],l9,aS,nJ,s2,r2,Wn,sO,λz3 cT iV NR=>?_⟩;have Pk:cT.length=js.length:=NR.1.trans hlen;have LW:∀j,j∉is->cT[j]? = (lB js σ)[j]? :=λj hj=>(NR.2 j hj).trans (BJ j hj)
        cases ht:tt aS with
        |none=>rw[ht] at hE;cases hE
        |some b=>
         rw[ht] at hE;refine⟨H1,[],z3,_,aS,b,iV,ht,λH4 s4=>?_⟩;have Hj:aH H1 H4:=(sH.trans s2).trans s4;have xF:aH H' H4:=s2.trans s4;cases b with
         |false=>
          cases hE;refine aax ?_;exact⟨ds.length-(i+1),by lia,rfl,Hj,Pk,LW,done,rest,vs,fp,xF _ _ hD,rs.same xF,nd,fr,hr,rfl,Nat.le_succ_of_le hle⟩
         |true=>
          refine adM ?_;dsimp only at hE;cases Im:te aS with
          |none=>rw[Im] at hE;cases hE
          |some w=>
           obtain⟨y,ty⟩:=w;rw[Im] at hE;dsimp only at hE;refine⟨H1,[],z3,_,aS,y,ty,iV.same s4,Im,λH5 yv fy s5 ry gy=>?_⟩;have wu:oe=some y/\fy.Nodup/\∀a∈fy,H4 a=none:=by
            by_cases ho:jT ty=true
            .rw[if_pos ho] at hE;cases hE;exact⟨rfl,by cases ty<;>first|exact gy|cases ho⟩
            .rw[if_neg ho] at hE
             by_cases hi:aC y=true
             .rw[if_pos hi] at hE;cases hE;have hn:=ry.aC hi;subst hn;exact⟨rfl,acj,λa m=>nomatch m⟩
             .rw[if_neg hi] at hE;cases hE
           obtain⟨rfl,ndy,CU⟩:=wu;dsimp only at hr;cases yK:nQ (iW g tt te (ju js ρ)) (ds.drop (i+1)) with
           |none=>rw[yK] at hr;cases hr
           |some r'=>
            rw[yK] at hr;cases hr;have Pn:aH H' H5:=xF.trans s5;have ME:H5 Dd=some (.lst vs):=Pn _ _ hD;have lv:vs.length<sizeLine:=by rw[<- rs.length];lia
            have im:a_ H5 (upd H5 Dd (.lst (vs++[yv]))):=a_.upd ME rfl;have n1:∀a∈fp++fy,a≠Dd:=λa m=>by
             rcases abE.mp m with m|m
             .exact(fr a m).2
             .intro e;have:=CU a m;rw[e,xF _ _ hD] at this;cases this
            have rs5:aB X.K H5 (done++[y]) (vs++[yv]) (fp++fy):=by
             have q:=aB.append (rs.same Pn) (aB.cons ry .nil);rw[acE] at q;exact q
            refine⟨vs,ME,lv,ds.length-(i+1),by lia,rfl,λb o e=>?_,Pk,LW,done++[y],r',vs++[yv],fp++fy,cB,rs5.frame (λa m=>aP (n1 a m)) im,?_,λa m=>?_,yK,?_,?_⟩
            .rw[aP (cV e uK)];exact s5 _ _ (Hj _ _ e)
            .refine acP.mpr ⟨nd,ndy,λa m b m' e=>?_⟩;subst e;obtain⟨o,w,_⟩:=(rs.same xF).cC a m;rw[CU a m'] at w;cases w
            .refine⟨?_,n1 a m⟩;rcases abE.mp m with m|m
             .exact(fr a m).1
             .exact Hj.free (CU a m)
            .rw[afi];rfl
            .rw[abN,aeh];lia
  .rw[if_neg hz] at e;cases e
theorem kh{ifs:List Expr}{tt:TF}{te:EF}{is:List Nat}(S:nS X M js sc)(hc:X.calm=true)(hi:FI X tg iter it)(zy:∀i∈is,js[i]? = some none)
  (hb:∀s3 H3 fp,FG (fC X M sc s3 H3 fp) tg g is/\Ab (fC X M sc s3 H3 fp) ifs tt/\FP (fC X M sc s3 H3 fp) elt te) (hs:∀x,foldedSetIterable iter X.env x=pure x:=by intro _;rfl) :
  FP X (.ListComp elt [⟨tg,iter,ifs,0⟩] sc pos) (iX js it g tt te):=by
 obtain⟨wi,pi,si⟩:=hi;exact⟨_,aaZ (tt:=xq X.K tt) S hc pi (λs3 H3 fp=>⟨(hb s3 H3 fp).1.pg,(hb s3 H3 fp).2.1,(hb s3 H3 fp).2.2.pe⟩) hs,@λH0 S z aq ρ σ H Q d tg ok e k=>R4 zy si ok e k⟩
theorem ur(i:Nat){ifs:List Expr}{js:List (Option Nat)}{it:IF}{is:List Nat}(hN:X.N.Nodup)(S:nS X M js sc)(hc:X.calm=true)(hi:FI X tg iter it)
  (zy:∀i∈is,js[i]? = some none) (hb:∀s3 H3 fp,FG (fC X M sc s3 H3 fp) tg g is/\Ab (fC X M sc s3 H3 fp) ifs tt/\FP (fC X M sc s3 H3 fp) elt te) (hy:X.N[i]? = some y:=by rfl) (hl:X.env.scope.names.lookup y=some .local:=by rfl)
  (j7:swapsWith (.ListComp elt [⟨tg,iter,ifs,0⟩] sc pos) (some (.Name y py)) C8.line X.env=pure true:=by rfl) (hs:∀x,foldedSetIterable iter X.env x=pure x:=by intro _;rfl) (k7:kK X y=false:=by rfl) :
  eV X (.Assign [.Name y py] (.ListComp elt [⟨tg,iter,ifs,0⟩] sc pos) C8) (dG i (iX js it g tt te)):=by
 obtain⟨wi,pi,si⟩:=hi;exists 23,Wp (g:=E_ X.K g is) (tt:=xq X.K tt) (te:=HB X.K te) hN hy hl S hc pi (λs3 H3 fp=>⟨(hb s3 H3 fp).1.pg,(hb s3 H3 fp).2.1,(hb s3 H3 fp).2.2.pe⟩) j7 hs;unfold dG at e;exists h,iX js it g tt te ρ,w,e,0;obtain⟨d,tg⟩:=w;rw[h] at e;cases e;refine R4 zy si ok h λH1 v fp s1 r1 g1=>?_
 exact ok.stored s1 r1 g1 λz' aT=>k z' _ H1 aT (.set hy k7)
end
noncomputable def uJ(n:Nat)(ds:List D):aO:=ds.map (λd=>some (d,.sh []))++List.replicate (n-ds.length) none
def bJ(n N:Nat)(b:SF):List D->Option D:=λds=>if ds.length=n then(match b (uJ N ds) with
 |some (.rt d)=>some d
 |some (.nx _)=>some .aA
 |_=>none) else none
noncomputable abbrev CF:=List D->List D->Option D
noncomputable def Bq(N:Nat)(es ds:List D):aO:=es.map (λd=>some (d,.own))++(ds.map (λd=>some (d,.sh []))++List.replicate (N-(ds.length+es.length)) none)
def runC(n N:Nat)(b:SF):CF:=λes ds=>if ds.length + es.length=n then(match b (Bq N es ds) with
 |some (.rt d)=>some d
 |some (.nx _)=>some .aA
 |_=>none) else none
def TH(K:PySem.W.Frag)(G:CF):Sp:=λvs H Q _=>∃us ws es ds bH fT d,vs=us++ws/\aB K H es us bH/\bH.Nodup/\aB K H ds ws fT/\(∀b∈fT,b∉bH)/\G es ds=some d/\
 ∀H' v fp,(∀a o,H a=some o->a∉bH->H' a=some o)->Rep K H' d v fp->fp.Nodup->(∀a∈fp,H a=none\/a∈bH)->Q v H'
theorem aB.own{K:PySem.W.Frag}:∀{es} {us} {fp} (k),aB K H es us fp->fp.Nodup->∃z:Addr->Option Nat,(∀i d,es[i]? = some d->∃v f,us[i]? = some v/\Rep K H d v f/\f.Nodup/\∀a∈f,z a=some (k+i))/\∀a j,z a=some j->a∈fp
 |_,_,_,_,.nil,_=>⟨λ_=>none,λi d e=>by simp at e,λ_ _ e=>nomatch e⟩
 |_,_,_,k,.cons (f1:=f1) (f2:=f2) r t,n=>by
  classical
  obtain⟨n1,n2,n3⟩:=acP.mp n;obtain⟨z,h1,h2⟩:=t.own (k+1) n2;refine⟨λa=>if a∈f1 then some k else z a,λi d e=>?_,λa j e=>?_⟩
  .cases i with
   |zero=>cases e;exact⟨_,f1,rfl,r,n1,λa m=>if_pos m⟩
   |succ i=>
    obtain⟨v,f,a1,a2,a3,a4⟩:=h1 i d e;exact⟨v,f,a1,a2,a3,λa m=>(if_neg λq=>n3 a q a (h2 a _ (a4 a m)) rfl).trans ((a4 a m).trans (by rw[Nat.add_assoc,Nat.add_comm 1]))⟩
  .dsimp only at e
   split at e
   .exact abq _ (by assumption)
   .exact aaV _ (h2 a j e)
section
variable{K:PySem.W.Frag}
theorem Ok.kq{H:Hp}(r0:aB K H es us bH)(nd:bH.Nodup)(rs:aB K H ds ws fT)(dj:∀b∈fT,b∉bH):∃z,Ok K H bH z [] (Bq N.length es ds) (start N (us++ws)) H:=by
 obtain⟨z,h1,h2⟩:=r0.own 0 nd;have l0:=r0.length;have l1:=rs.length;unfold Bq start;rw[ade,afi];refine⟨z,λi d' t' e'=>?_,(λp m=>by cases m),(λa j e=>⟨let⟨o,w,_⟩:=r0.cC a (h2 a j e);⟨o,w⟩,.inr (h2 a j e)⟩),(λa o e _=>e),?_⟩
 .by_cases hi:i<es.length
  .rw[aea (by rw[List.length_map];exact hi),aco,abp hi] at e';cases e';obtain⟨v,g,hv,rv,n',hz⟩:=h1 i _ (abp hi);rw[aha] at hz;exact⟨v,g,(aea (by rw[List.length_map];lia)).trans (by rw[aco,hv];rfl),rv,n',hz⟩
  .rw[aeB (by rw[List.length_map];lia),List.length_map] at e';rw[aeB (by rw[List.length_map];lia),List.length_map,<- l0];generalize i-es.length=i at e' ⊢
   by_cases hi:i<ds.length
   .rw[aea (by rw[List.length_map];exact hi),aco,abp hi] at e';cases e';obtain⟨v,g,hv,rv,sub⟩:=rs.get (abp hi);exact⟨v,g,(aea (by rw[List.length_map];lia)).trans (by rw[aco,hv];rfl),rv,λa m j e=>(dj a (sub a m) (h2 a j e)).elim⟩
   .rw[aeB (by rw[List.length_map];lia),agK] at e'
    split at e'<;>cases e'
 .simp only[abN,List.length_map,List.length_replicate]
  lia
theorem V4{st:Stmt}(F:jd K x qual st f fd)(S:o7 N ps (cz st))
  (hb:∀(aR:{c:Value // c=fd.code}) (A) (outer) (s) (H) (E),bu k (A.deeper (envOfC qual (cz st) s.heap.objs.size f aR)) cm->FS (fU c9 P w K mg base N qual (cz st) f aR A outer s H E cm).eZ (gO st) b) :
  bX P w K mg base c9 (k+1) f fd ps (TH K (runC ps.length N.length b)) cm:=by
 refine F.ok S (λvs H Q E h=>?_) (λaR A outer s H vs Q E hr h=>?_)<;>obtain⟨us,ws,es,ds,bH,fT,d,e0,r0,nd,rs,dj,e,q⟩:=h
 .unfold runC at e
  split at e
  .rename_i h;rw[e0,abN,<- r0.length,<- rs.length,Nat.add_comm,h]
  .cases e
 .obtain⟨t,p,sd⟩:=hb aR A outer s H E hr;refine⟨t,p,?_⟩;obtain⟨z,ok⟩:=Ok.kq r0 nd rs dj;rw[e0];unfold runC at e
  split at e
  .cases ho:b (Bq N.length es ds) with
   |none=>rw[ho] at e;cases e
   |some o=>
    rw[ho] at e;refine sd ok ho ?_;cases o with
    |rt d'=>cases e;exact q
    |nx ρ'=>cases e;exact λz' az H' aT _=>q H' .aA [] aT.en .aA acj λa m=>nomatch m
    |bk _=>cases e
    |ct _=>cases e
    |er _ _ _=>cases e
  .cases e
theorem Ro{st:Stmt}(F:jd K x qual st f fd)(S:o7 N ps (cz st))
  (hb:∀(aR:{c:Value // c=fd.code}) (A) (outer) (s) (H) (E),bu k (A.deeper (envOfC qual (cz st) s.heap.objs.size f aR)) cm->FS (fU c9 P w K mg base N qual (cz st) f aR A outer s H E cm).eZ (gO st) b) :
  bX P w K mg base c9 (k+1) f fd ps (bz K (bJ ps.length N.length b)) cm:=
 (V4 F S hb).imp λvs H Q E ⟨ds,fp,d,rs,e,q⟩=>⟨[],vs,[],ds,[],fp,d,rfl,.nil,.nil,rs,(λ_ _ m=>nomatch m),e,λH' v fp en r n fr=>q H' v fp (λa o e=>en a o e λm=>nomatch m) r n λa m=>(fr a m).resolve_right λm=>nomatch m⟩
end
noncomputable def uW(f:Int->Int->Int):D->D->Option D
 |.int i,.int j=>some (.int (f i j))
 |_,_=>none
noncomputable def yh(C:Int->Int->Bool)(f:Int->Int->Int):D->D->Option D
 |.int i,.int j=>if C i j=true then some (.int (f i j)) else none
 |_,_=>none
noncomputable def vn(f:Int->Int->Bool):D->D->Option D
 |.int i,.int j=>some (.bl (f i j))
 |_,_=>none
noncomputable def sL(i j:Int):Bool:=(decide (-(2 ^ 64)<i)&&decide (i<2 ^ 64))||(decide (-(2 ^ 64)<j)&&decide (j<2 ^ 64))
noncomputable def Dv(_ j:Int):Bool:=decide (0<j)
def iM:=uW λi j=>i+j
def kg:=uW λi j=>i-j
def wm:=yh sL λi j=>i*j
def oMod:=yh Dv λi j=>i % j
def oLt:=vn λi j=>decide (i<j)
def oLe:=vn λi j=>decide (i<=j)
def pO:=vn λi j=>decide (j<i)
def BZ:=vn λi j=>decide (j<=i)
noncomputable def oEq:D->D->Option D
 |.int i,.int j=>some (.bl (i==j))
 |.bl i,.bl j=>some (.bl (i==j))
 |.str i,.str j=>some (.bl (i==j))
 |.aA,.aA=>some (.bl true)
 |_,_=>none
noncomputable def jw:D->D->Option D
 |.int i,.int j=>some (.bl (!(i==j)))
 |.bl i,.bl j=>some (.bl (!(i==j)))
 |.str i,.str j=>some (.bl (!(i==j)))
 |.aA,.aA=>some (.bl false)
 |_,_=>none
noncomputable def oH:D->Bool
 |.aA=>true
 |_=>false
def gR:D->D->Option D
 |d,.aA=>some (.bl (oH d))
 |_,_=>none
def Bw:D->D->Option D
 |d,.aA=>some (.bl (!oH d))
 |_,_=>none
section
variable{K:PySem.W.Frag}
theorem Lz:gC K (m8 λi j=>.int (g i j)) (uW g):=by
 exists 42;unfold uW at e
 split at e
 .cases e;exact⟨_,_,r1.iy.1,r2.iy.1,k H _ (aH.refl H) (.int _)⟩
 .cases e
theorem oA:gC K (m8 λi j=>.bl (g i j)) (vn g):=by
 exists 42;unfold vn at e
 split at e
 .cases e;exact⟨_,_,r1.iy.1,r2.iy.1,k H _ (aH.refl H) (.bl _)⟩
 .cases e
theorem Fb(h:∀i j,c i j=true->C i j):gC K (rI C λi j=>.int (g i j)) (yh c g):=by
 exists 42;unfold yh at e
 split at e
 .rename_i i j;obtain⟨hc,e⟩:=ci e;cases e;exact⟨i,j,r1.iy.1,r2.iy.1,h i j hc,k H _ (aH.refl H) (.int _)⟩
 .cases e
theorem ael(i j:Int)(h:sL i j=true):xX i j:=by
 unfold sL at h;unfold xX;rcases(ahf _ _).mp h with h|h
 .obtain⟨a,b⟩:=(abn _ _).mp h;exact .inl ⟨abd a,abd b⟩
 .obtain⟨a,b⟩:=(abn _ _).mp h;exact .inr ⟨abd a,abd b⟩
theorem Jd:gC K Mf oEq:=by
 exists 42;unfold oEq at e
 split at e
 .cases e;rw[r1.iy.1,r2.iy.1];refine⟨rfl,?_⟩;rw[B5];exists 53
 .cases e;rw[r1.AU.1,r2.AU.1];refine⟨rfl,?_⟩;rw[z_];exists 53
 .cases e;rw[r1.yE.1,r2.yE.1];refine⟨rfl,?_⟩;rw[AH];exists 53
 .cases e;rw[r1.Ai.1,r2.Ai.1];exact⟨rfl,by have:=k H (.bl true) (aH.refl H) (.bl _);simpa using this⟩
 .cases e
theorem QK:gC K N2 jw:=by
 exists 42;unfold jw at e
 split at e
 .cases e;rw[r1.iy.1,r2.iy.1];refine⟨rfl,?_⟩;rw[B5];exists 53
 .cases e;rw[r1.AU.1,r2.AU.1];refine⟨rfl,?_⟩;rw[z_];exists 53
 .cases e;rw[r1.yE.1,r2.yE.1];refine⟨rfl,?_⟩;rw[AH];exists 53
 .cases e;rw[r1.Ai.1,r2.Ai.1];exact⟨rfl,by have:=k H (.bl false) (aH.refl H) (.bl _);simpa using this⟩
 .cases e
theorem Rep.oH(r:Rep K H d v fp):decide (v=.aA)=oH d:=by
 cases r<;>first|rfl|exact abR (λe=>nomatch e)
theorem JV:gC K (λx y H Q=>y=.aA/\Q (.bl (decide (x=.aA))) H) gR:=by
 exists 42;unfold gR at e
 split at e
 .cases e;cases r2;refine⟨rfl,?_⟩;rw[r1.oH];exists 53
 .cases e
theorem TQ:gC K (λx y H Q=>y=.aA/\Q (.bl (!decide (x=.aA))) H) Bw:=by
 exists 42;unfold Bw at e
 split at e
 .cases e;cases r2;refine⟨rfl,?_⟩;rw[r1.oH];exists 53
 .cases e
end
section
variable{X:Cx}
theorem f9(ha:FP X a fa)(hb:FP X b fb):FP X (.BinOp a .Add b pos) (e2 iM fa fb):=zK Xv Lz ha hb
theorem uB(ha:FP X a fa)(hb:FP X b fb):FP X (.BinOp a .Sub b pos) (e2 kg fa fb):=zK Yy Lz ha hb
theorem uz(ha:FP X a fa)(hb:FP X b fb):FP X (.BinOp a .Mult b pos) (e2 wm fa fb):=zK VD (Fb ael) ha hb
theorem zq(ha:FP X a fa)(hb:FP X b fb):FP X (.BinOp a .Mod b pos) (e2 oMod fa fb):=zK abJ (Fb λ_ _ h=>abd h) ha hb
theorem qU(ha:FP X a fa)(hb:FP X b fb):FT X (.Compare a [.Lt] [b] pos) (tV (e2 oLt fa fb)):=iY KH oA ha hb (g_ _)
theorem T9(ha:FP X a fa)(hb:FP X b fb):FT X (.Compare a [.LtE] [b] pos) (tV (e2 oLe fa fb)):=iY zU oA ha hb (g_ _)
theorem xW(ha:FP X a fa)(hb:FP X b fb):FT X (.Compare a [.Gt] [b] pos) (tV (e2 pO fa fb)):=iY Rh oA ha hb (g_ _)
theorem Be(ha:FP X a fa)(hb:FP X b fb):FT X (.Compare a [.GtE] [b] pos) (tV (e2 BZ fa fb)):=iY S6 oA ha hb (g_ _)
theorem fZ(ha:FP X a fa)(hb:FP X b fb):FT X (.Compare a [.Eq] [b] pos) (tV (e2 oEq fa fb)):=iY Ew Jd ha hb (g_ _)
theorem mR(ha:FP X a fa)(hb:FP X b fb):FT X (.Compare a [.NotEq] [b] pos) (tV (e2 jw fa fb)):=iY Rb QK ha hb (g_ _)
theorem yT(ha:FP X a fa)(hb:FP X b fb):FT X (.Compare a [.Is] [b] pos) (tV (e2 gR fa fb)):=iY Er JV ha hb (g_ _)
theorem acC(ha:FP X a fa)(hb:FP X b fb):FT X (.Compare a [.IsNot] [b] pos) (tV (e2 Bw fa fb)):=iY ac6 TQ ha hb (g_ _)
theorem wQ(ha:FP X a fa)(hb:FP X b fb):FP X (.Compare a [.Eq] [b] pos) (e2 oEq fa fb):=oB Ew Jd ha hb (g_ _)
noncomputable def e1(op:D->Option D)(fa:EF):EF:=λρ=>match fa ρ with
 |some (d1,_)=>(op d1).map λd=>(d,.own)
 |none=>none
theorem sX(e:e1 op fa ρ=some (d,tg)):∃d1 t1,fa ρ=some (d1,t1)/\op d1=some d/\tg=.own:=by
 unfold e1 at e;exists h1,fa ρ,p,e,0;obtain⟨d1,t1⟩:=p;rw[h1] at e;exists 70;exists h3,op d1,d3,e;cases e;exact⟨d1,t1,rfl,h3,rfl⟩
def oz(K:PySem.W.Frag)(r:List V->Hp->VK->Prop)(op:D->Option D):Prop:=∀(H) (x) (d1) (f1) (d) (Q),Rep K H d1 x f1->op d1=some d->
 (∀H' v fp,aH H H'->Rep K H' d v fp->fp.Nodup->(∀a∈fp,H a=none)->Q v H')->r [x] H Q
theorem fp_1(dd:oz X.K r op)(ha:FP X a fa)(he:∀ta,PE X a ta->PE X e (El r (K7 ta CQ))):FP X e (e1 op fa):=by
 exists 69;exists 21,he t p;obtain⟨d1,t1,h1,h2,rfl⟩:=sX e;refine q ok h1 λH1 x f1 s1 r1 _=>?_
 exact dd H1 x d1 f1 d Q r1 h2 λH2 v fp s2 r2 nd fr=>k H2 v fp (s1.trans s2) r2 ⟨nd,λa m=>s1.free (fr a m)⟩
noncomputable def d7:D->Option D
 |.lst ds=>some (.int ds.length)
 |.gG ds=>some (.int ds.length)
 |.tup ds=>some (.int ds.length)
 |.bP es=>some (.int es.length)
 |_=>none
theorem fX.or'(h:fX X f r)(h':fX X f r'):fX X f (λxs H Q=>r xs H Q\/r' xs H Q):=by
 intro af s σ H xs us Q I rv q;rcases q with q|q
 .exact h af s σ H xs us Q I rv q
 .exact h' af s σ H xs us Q I rv q
theorem Zc:oz X.K (λxs H Q=>(∃p ys,xs=[V.ref p]/\(bZ X.K H p ys\/ck X.K H p ys)/\Q (.int ys.length) H)\/(∃a ak,xs=[V.ref a]/\H a=some (.dK ak)/\Q (.int ak.length) H)) d7:=by
 exists 46;have fin:∀n:Nat,d=.int n->Q (.int n) H:=λn e=>by subst e;exact k H _ [] (aH.refl H) (.int _) acj λa m=>nomatch m
 cases d1 with
 |lst ds=>
  exists 80;cases e;exact .inl ⟨a,xs,rfl,.inl hq,by rw[<- rs.length];exact fin _ rfl⟩
 |gG ds=>
  obtain⟨a,xs,rfl,hq,rs⟩:=r.rK;cases e;exact .inl ⟨a,xs,rfl,.inl hq,by rw[<- rs.length];exact fin _ rfl⟩
 |tup ds=>
  obtain⟨a,xs,rfl,hq,rs⟩:=r.i8;cases e;exact .inl ⟨a,xs,rfl,.inr hq,by rw[<- rs.length];exact fin _ rfl⟩
 |bP es=>
  cases r with
  |bP h hk rs=>
   cases e;refine .inr ⟨_,_,rfl,h,?_⟩;have hl:=congrArg List.length hk;rw[List.length_map,List.length_map] at hl;rw[<- hl];exact fin _ rfl
 |_=>cases e
theorem dW(hm:X.mg "len"=none)(ha:FP X a fa)(hg:Gl X "len":=by rfl)(hs:Y2 X a:=by rfl):FP X (.Call (.Name "len" p) [a] [] pos) (e1 d7 fa):=
 fp_1 Zc ha λta pa=>lR (fX.or' ace ady) hg hm PySem.boot_len (cP pa eT hs) (he:=hs)
def qz:D->Option D
 |.lst ds=>if aN ds=true then some (.lst ds) else none
 |.tup ds=>if aN ds=true then some (.lst ds) else none
 |_=>none
theorem VL:oz X.K (λxs H Q=>∃p ys,xs=[V.ref p]/\(bZ X.K H p ys\/ck X.K H p ys)/\∀l,H l=none->Q (.ref l) (upd H l (.lst ys))) qz:=by
 exists 46;have fin:∀{ds} {xs} {f},aB X.K H ds xs f->(if aN ds=true then some (D.lst ds) else none)=some d->∀l,H l=none->Q (.ref l) (upd H l (.lst xs)):=λ{ds xs f} rs e l hl=>by
  exists 84;cases e;have hn:=rs.aC hi;subst hn;have s2:aH H (upd H l (.lst xs)):=λb o e=>by rw[aP (cV e hl)];exact e
  exact k _ _ [l] s2 (.lst cB (rs.same s2)) (abV.mpr ⟨(λm=>by cases m),acj⟩) λa m=>by cases aa3.mp m;exact hl
 cases d1 with
 |lst ds=>
  exists 80;exact⟨a,xs,rfl,.inl hq,fin rs e⟩
 |tup ds=>
  obtain⟨a,xs,rfl,hq,rs⟩:=r.i8;exact⟨a,xs,rfl,.inr hq,fin rs e⟩
 |_=>cases e
theorem jh(hm:X.mg "list"=none)(ha:FP X a fa)(hg:Gl X "list":=by rfl)(hs:Y2 X a:=by rfl):FP X (.Call (.Name "list" p) [a] [] pos) (e1 qz fa):=
 fp_1 VL ha λta pa=>IV aaL hg hm (by rfl) (cP pa eT hs) (he:=hs)
end
def dZ:D->D->Option D
 |.gG ds,.int i=>(dU ds i).bind λd=>if aC d=true then some d else none
 |.lst ds,.int i=>(dU ds i).bind λd=>if aC d=true then some d else none
 |.tup ds,.int i=>(dU ds i).bind λd=>if aC d=true then some d else none
 |_,_=>none
theorem ZW{K:PySem.W.Frag}:gC K (λx y H Q=>DA K x y H Q\/Fq K x y H Q\/EB x y H Q) dZ:=by
 exists 42;have key:∀{ds} {xs} {f} {i},aB K H ds xs f->((dU ds i).bind λd=>if aC d=true then some d else none)=some d->∃v,dU xs i=some v/\Rep K H d v []:=λ{ds xs f i} rs e=>by
  unfold dU at e ⊢;rw[<- rs.length];exists h,lI ds.length i,j,e,0;rw[h,acV] at e;rw[acV];exists h2,ds[j]?,d',e,0;rw[h2,acV] at e
  by_cases hi:aC d'=true
  .rw[if_pos hi] at e;cases e;obtain⟨v,f',hv,rv,_⟩:=rs.get h2;have hn:=rv.aC hi;subst hn;exact⟨v,hv,rv⟩
  .rw[if_neg hi] at e;cases e
 unfold dZ at e
 split at e
 .obtain⟨a,xs,rfl,hq,rs⟩:=r1.rK;obtain⟨v,hv,rv⟩:=key rs e;exact .inl ⟨a,xs,_,v,rfl,r2.iy.1,hq,hv,k H v (aH.refl H) rv⟩
 .obtain⟨a,xs,f,rfl,hq,rs,_⟩:=r1.dY;obtain⟨v,hv,rv⟩:=key rs e;exact .inl ⟨a,xs,_,v,rfl,r2.iy.1,hq,hv,k H v (aH.refl H) rv⟩
 .obtain⟨a,xs,rfl,hq,rs⟩:=r1.i8;obtain⟨v,hv,rv⟩:=key rs e;exact .inr (.inl ⟨a,xs,_,v,rfl,r2.iy.1,hq,hv,k H v (aH.refl H) rv⟩)
 .cases e
theorem fB(ha:FP X a fa)(hb:FP X b fb)(hs:Ds b:=by exact λ_ _=>rfl):FP X (.Subscript a b pos) (e2 dZ fa fb):=fp_2 ZW ha hb λ_ _ pa pb=>PN Qs pa pb hs
theorem Ez:eC d ρ=some (d,.own):=rfl
noncomputable def k1(op:D->Option D):Option (D×Tag)->Option (D×Tag)
 |some (d,_)=>(op d).map λd=>(d,.own)
 |none=>none
theorem ya:e1 CY fa ρ=k1 CY (fa ρ):=by unfold e1 k1;cases fa ρ<;>rfl
theorem K6:k1 CY (some (d,t))=(CY d).map λd=>(d,.own):=rfl
noncomputable def k2(op:D->D->Option D):Option (D×Tag)->Option (D×Tag)->Option (D×Tag)
 |some (d1,_),some (d2,_)=>(op d1 d2).map λd=>(d,.own)
 |_,_=>none
theorem kD:e2 Jz fa fb ρ=k2 Jz (fa ρ) (fb ρ):=by unfold e2 k2;cases fa ρ<;>cases fb ρ<;>rfl
theorem yX:k2 Jz (some (d1,t1)) (some (d2,t2))=(Jz d1 d2).map λd=>(d,.own):=rfl
theorem PB:(some a).map f=some (f a):=rfl
noncomputable def kV:Option (D×Tag)->Option Bool
 |some (.bl b,_)=>some b
 |_=>none
theorem zf:tV fa ρ=Ev.kV (fa ρ):=by
 unfold tV Ev.kV;cases fa ρ with
 |none=>rfl
 |some p=>obtain⟨d,t⟩:=p;cases d<;>rfl
theorem N_(h:tf ρ=some true):jy tf tg ρ=tg ρ:=by unfold jy;rw[h]
theorem pX(h:tf ρ=some false):jX tf tg ρ=tg ρ:=by unfold jX;rw[h]
theorem vF(h:tf ρ=some a)(h2:tg ρ=some b):jy tf tg ρ=some (a&&b):=by unfold jy;rw[h];cases a<;>first|exact h2|rfl
theorem yk(h:tf ρ=some a)(h2:tg ρ=some b):jX tf tg ρ=some (a||b):=by unfold jX;rw[h];cases a<;>first|exact h2|rfl
theorem Ge:lW tf ρ=(tf ρ).map λb=>!b:=rfl
theorem aeQ:gK ρ=some (.nx ρ):=rfl
noncomputable def Aw(g:SF):Option Out->Option Out
 |some (.nx ρ)=>g ρ
 |o=>o
theorem jG:b7 sf sg ρ=Aw sg (sf ρ):=by
 unfold b7 Aw;cases sf ρ with
 |none=>rfl
 |some o=>cases o<;>rfl
theorem nY:Aw sg (some (.nx ρ))=sg ρ:=rfl
noncomputable def Br(sf sg:SF)(ρ:aO):Option Bool->Option Out
 |some true=>sf ρ
 |some false=>sg ρ
 |none=>none
theorem ja:eX tf sf sg ρ=Br sf sg ρ (tf ρ):=by unfold eX Br;cases tf ρ<;>rfl
theorem Pe:Br sf sg ρ (some true)=sf ρ:=rfl
theorem Oa:Br sf sg ρ (some false)=sg ρ:=rfl
def Q_:Option (D×Tag)->Option Out
 |some (d,t)=>if jT t=true then some (.rt d) else if aC d=true then some (.rt d) else none
 |none=>none
theorem A5:lC fa ρ=Q_ (fa ρ):=by unfold lC Q_;cases fa ρ<;>rfl
def Bs(i:Nat)(ρ:aO):Option (D×Tag)->Option Out
 |some (d,t)=>some (.nx (iB ρ i d t))
 |none=>none
theorem j9:dG i fa ρ=Bs i ρ (fa ρ):=by unfold dG Bs;cases fa ρ<;>rfl
theorem yI:aJ ρ=some []:=rfl
noncomputable def lJ:Option (D×Tag)->Option (List (D×Tag))->Option (List (D×Tag))
 |some p,some ps=>some (p::ps)
 |_,_=>none
theorem aX:ay fa a ρ=lJ (fa ρ) (a ρ):=by unfold ay lJ;cases fa ρ<;>cases a ρ<;>rfl
theorem BR:lJ (some p) (some ps)=some (p::ps):=rfl
theorem s_call:cO F a ρ=(a ρ).bind λps=>(F (ps.map (·.1))).map λd=>(d,.own):=rfl
theorem OI:(some a).bind f=f a:=rfl
theorem rT:mD a ρ=(a ρ).map λps=>(.tup (ps.map (·.1)),jM ps):=rfl
theorem ly:iM (.int m) (.int n)=some (.int (m+n)):=rfl
theorem uN(h:sL m n=true):wm (.int m) (.int n)=some (.int (m*n)):=by show(if sL m n=true then some (D.int (m*n)) else none)=_;rw[if_pos h]
theorem x9(h:0<n):oMod (.int m) (.int n)=some (.int (m % n)):=by show(if Dv m n=true then some (D.int (m % n)) else none)=_;rw[if_pos (show Dv m n=true from aa1 h)]
theorem uI:oLt (.int m) (.int n)=some (.bl (decide (m<n))):=rfl
theorem Pj:oLe (.int m) (.int n)=some (.bl (decide (m<=n))):=rfl
theorem z9:pO (.int m) (.int n)=some (.bl (decide (n<m))):=rfl
theorem Va:BZ (.int m) (.int n)=some (.bl (decide (n<=m))):=rfl
theorem zM:d7 (.lst ds)=some (.int ds.length):=rfl
theorem vD(h:dU ds m=some d)(hi:aC d=true):dZ (.lst ds) (.int m)=some d:=by show((dU ds m).bind λd=>if aC d=true then some d else none)=_;rw[h,acV,if_pos hi]
theorem acK(h:dU ds m=some d)(hi:aC d=true):dZ (.gG ds) (.int m)=some d:=by show((dU ds m).bind λd=>if aC d=true then some d else none)=_;rw[h,acV,if_pos hi]
theorem ach(h:dU ds m=some d)(hi:aC d=true):dZ (.tup ds) (.int m)=some d:=by show((dU ds m).bind λd=>if aC d=true then some d else none)=_;rw[h,acV,if_pos hi]
theorem cu(hl:ds.length=n)(h:b (uJ N ds)=some (.rt d)):bJ n N b ds=some d:=by unfold bJ;rw[if_pos hl,h]
noncomputable def dI(ns:List Int):D:=.gG (ns.map D.int)
theorem P9{ns:List Int}{i:Int}(h0:0<=i)(h1:i<ns.length):dU (ns.map D.int) i=some (.int (ns.getD i.toNat 0)):=by
 unfold dU lI;have h2:i.toNat<ns.length:=by omega
 rw[List.length_map,if_pos h0,if_pos h1,acV,aco,abp h2,adu,abp h2];rfl
section
variable[DecidableEq κ]
def bB(es:List (κ×D))(k:κ):Option D:=(es.find? λkv=>decide (kv.1=k)).map (·.2)
def putD(es:List (κ×D))(k:κ)(d:D):List (κ×D):=
 if(es.any λkv=>decide (kv.1=k))=true then es.map (λkv=>if kv.1=k then(kv.1,d) else kv) else es++[(k,d)]
theorem qC{K:PySem.W.Frag}:∀{es}{ak:List (κ×V)} {fp},es.map (·.1)=ak.map (·.1)->aB K H (es.map (·.2)) (ak.map (·.2)) fp->
  (∀d,bB es k=some d->∃v f,eF ak k=some v/\Rep K H d v f/\∀a∈f,a∈fp)/\(bB es k=none->eF ak k=none)
 |[],[],_,_,_=>⟨λd e=>(nomatch e),λ_=>rfl⟩
 |[],_::_,_,e,_=>by simp at e
 |_::_,[],_,e,_=>by simp at e
 |(q,d0)::es,(q',v0)::ak,fp,e,r=>by
  simp only[aas,afB] at e;obtain⟨rfl,e⟩:=e;simp only[aas] at r;cases r with
  | @cons _ _ _ _ f1 f2 r1 r2=>
   obtain⟨i1,i2⟩:=qC e r2
   by_cases h:q=k
   .have e1:bB ((q,d0)::es) k=some d0:=by unfold bB;rw[adz,aa1 h];rfl
    refine⟨λd ed=>?_,λen=>?_⟩
    .rw[e1] at ed;cases ed;exact⟨v0,f1,za h,r1,λa m=>abq _ m⟩
    .rw[e1] at en;cases en
   .have e1:bB ((q,d0)::es) k=bB es k:=by unfold bB;rw[adz,abR h]
    rw[e1,yW h];exact⟨λd ed=>let⟨v,f,a,b,c⟩:=i1 d ed;⟨v,f,a,b,λx m=>aaV _ (c x m)⟩,i2⟩
theorem ye{k:κ}(e:es.map (·.1)=ak.map (·.1)):(putD es k d).map (·.1)=(putK ak k v).map (·.1):=by
 have any:(es.any λkv=>decide (kv.1=k))=ak.any λkv=>decide (kv.1=k):=by
  have h1:(es.any λkv=>decide (kv.1=k))=(es.map (·.1)).any λx=>decide (x=k):=by rw[agJ];rfl
  have h2:(ak.any λkv=>decide (kv.1=k))=(ak.map (·.1)).any λx=>decide (x=k):=by rw[agJ];rfl
  rw[h1,h2,e]
 have m1:∀l:List (κ×D),(l.map λkv=>if kv.1=k then(kv.1,d) else kv).map (·.1)=l.map (·.1):=λl=>by
  rw[ac4];congr 1;funext kv;show(if kv.1=k then(kv.1,d) else kv).1=kv.1;split<;>rfl
 have m2:∀l:List (κ×V),(l.map λkv=>if kv.1=k then(kv.1,v) else kv).map (·.1)=l.map (·.1):=λl=>by
  rw[ac4];congr 1;funext kv;show(if kv.1=k then(kv.1,v) else kv).1=kv.1;split<;>rfl
 unfold putD putK;rw[any]
 by_cases h:(ak.any λkv=>decide (kv.1=k))=true
 .rw[if_pos h,if_pos h,m1,m2,e]
 .rw[if_neg h,if_neg h,ade,ade,e];rfl
theorem IP{K:PySem.W.Frag}{ak:List (κ×V)}(e:es.map (·.1)=ak.map (·.1))(r:aB K H (es.map (·.2)) (ak.map (·.2)) [])(rv:Rep K H d v []):
  aB K H ((putD es k d).map (·.2)) ((putK ak k v).map (·.2)) []:=by
 have any:(es.any λkv=>decide (kv.1=k))=ak.any λkv=>decide (kv.1=k):=by
  have h1:(es.any λkv=>decide (kv.1=k))=(es.map (·.1)).any λx=>decide (x=k):=by rw[agJ];rfl
  have h2:(ak.any λkv=>decide (kv.1=k))=(ak.map (·.1)).any λx=>decide (x=k):=by rw[agJ];rfl
  rw[h1,h2,e]
 have go:∀(es:List (κ×D)) (ak:List (κ×V)),es.map (·.1)=ak.map (·.1)->aB K H (es.map (·.2)) (ak.map (·.2)) []->aB K H ((es.map λkv=>if kv.1=k then(kv.1,d) else kv).map (·.2)) ((ak.map λkv=>if kv.1=k then(kv.1,v) else kv).map (·.2)) []:=by
  intro es
  induction es with
  |nil=>
   intro ak e r;cases ak with
   |nil=>exact .nil
   |cons _ _=>simp at e
  |cons p es ih=>
   intro ak e r;cases ak with
   |nil=>simp at e
   |cons p' ak=>
    obtain⟨q,d0⟩:=p;obtain⟨q',v0⟩:=p';simp only[aas,afB] at e;obtain⟨rfl,e⟩:=e;simp only[aas] at r ⊢;generalize hf:([]:List Addr)=fp at r;cases r with
    | @cons _ _ _ _ f1 f2 r1 r2=>
     obtain⟨h1,h2⟩:=agV.mp hf.symm;subst h1 h2;have t:=ih ak e r2
     by_cases h:q=k
     .rw[if_pos h,if_pos h];exact aB.cons rv t
     .rw[if_neg h,if_neg h];exact aB.cons r1 t
 unfold putD putK;rw[any]
 by_cases h:(ak.any λkv=>decide (kv.1=k))=true
 .rw[if_pos h,if_pos h];exact go es ak e r
 .rw[if_neg h,if_neg h,ade,ade];exact aB.append r (aB.cons rv .nil)
end
noncomputable def iA:D->Option Key
 |.int i=>some (.inl i)
 |.str x=>some (.inr x)
 |_=>none
theorem Rep.key{K:PySem.W.Frag}(r:Rep K H d y fp)(e:iA d=some k):y=L2.kV k:=by
 cases r<;>cases e<;>rfl
def oi:D->D->Option D
 |.bP es,kd=>match iA kd with
  |some k=>(bB es k).bind λd=>if aC d=true then some d else none
  |none=>none
 |_,_=>none
def Td:R2:=λx y H Q=>∃a v,x=.ref a/\h_ H a y (some v)/\Q v H
theorem ZA{K:PySem.W.Frag}:gC K Td oi:=by
 exists 42;cases r1 with
 | @bP a ak es fp h hk rs=>
  have e:(match iA d2 with|some k=>(bB es k).bind λd=>if aC d=true then some d else none|none=>none)=some d:=e;exists y_,iA d2,key,e;exists 70;exists hv,bB es key,d',e,0;rw[hv,acV] at e
  by_cases hi:aC d'=true
  .rw[if_pos hi] at e;cases e;obtain⟨v,f,h1,r,_⟩:=(qC hk rs).1 d hv;have hn:=r.aC hi;subst hn;have ek:=r2.key y_;subst ek;have g:=h_.k (k:=key) h;rw[h1] at g;exact⟨a,v,rfl,g,k H v (aH.refl H) r⟩
  .rw[if_neg hi] at e;cases e
 |_=>cases e
theorem Ej(hu:X.A.units+1<cLine)(ha:FP X a fa)(hb:FP X b fb)(hs:yr b:=by exact λ_ _=>rfl):FP X (.Subscript a b pos) (e2 oi fa fb):=
 fp_2 ZA ha hb λ_ _ pa pb=>af6 hu pa pb hs
def tE(d1 d2 d3:D):Option D:=match d1,iA d2 with
 |.bP es,some k=>match bB es k with
  |some d=>if aC d=true then some d else none
  |none=>if aC d3=true then some d3 else none
 |_,_=>none
noncomputable def e3(op:D->D->D->Option D)(fa fb fc:EF):EF:=λρ=>match fa ρ,fb ρ,fc ρ with
 |some (d1,_),some (d2,_),some (d3,_)=>(op d1 d2 d3).map λd=>(d,.own)
 |_,_,_=>none
theorem adx(e:e3 op fa fb fc ρ=some (d,tg)):∃d1 t1 d2 t2 d3 t3,fa ρ=some (d1,t1)/\fb ρ=some (d2,t2)/\fc ρ=some (d3,t3)/\op d1 d2 d3=some d/\tg=.own:=by
 unfold e3 at e;exists h1,fa ρ,p,e,0;cases h2:fb ρ with
 |none=>rw[h1,h2] at e;cases e
 |some q=>
  cases h3:fc ρ with
  |none=>rw[h1,h2,h3] at e;cases e
  |some r=>
   obtain⟨d1,t1⟩:=p;obtain⟨d2,t2⟩:=q;obtain⟨d3,t3⟩:=r;rw[h1,h2,h3] at e;exists 70;exists h4,op d1 d2 d3,d4,e;cases e;exact⟨d1,t1,d2,t2,d3,t3,rfl,rfl,rfl,h4,rfl⟩
theorem Nc{apos fP:Pos}(hu:X.A.units+1<cLine)(ha:FP X a fa)(hb:FP X b fb)(hc:FP X c fc)(m:M2 X a "get" apos b c fP:=by exact⟨rfl,rfl,rfl,rfl⟩):FP X (.Call (.Attribute a "get" apos) [b,c] [] fP) (e3 tE fa fb fc):=by
 exists 51;obtain⟨tc,pc,sc⟩:=hc;exists 21,DW hu pa pb pc m;obtain⟨d1,t1,d2,t2,d3,t3,h1,h2,h3,h4,rfl⟩:=adx e;refine sa ok h1 λH1 x f1 s1 r1 _=>?_
 cases d1 with
 |bP es=>
  cases r1 with
  | @bP p ak _ fp h hk rs=>
   refine⟨p,rfl,.inl ⟨ak,.inl h⟩,?_⟩;refine sb (ok.same s1) h2 λH2 y f2 s2 r2 _=>?_
   refine sc ((ok.same s1).same s2) h3 λH3 w f3 s3 r3 _=>?_
   unfold tE at h4;exists y_,iA d2,key,h4;dsimp only at h4;have ek:=r2.key y_;subst ek;have zR:=s3 _ _ (s2 _ _ h);have g:=h_.k (k:=key) zR;refine⟨_,g,?_⟩;have zJ:=(s1.trans s2).trans s3;obtain⟨i1,i2⟩:=qC hk ((rs.same s2).same s3);cases hv:bB es key with
   |some d'=>
    rw[hv] at h4;dsimp only at h4;obtain⟨hi,h4⟩:=ci h4;cases h4;obtain⟨v,f,e1,r,_⟩:=i1 d hv;have hn:=r.aC hi;subst hn;rw[e1];exact k H3 v [] zJ r .nil
   |none=>
    rw[hv] at h4;dsimp only at h4;obtain⟨hi,h4⟩:=ci h4;cases h4;rw[i2 hv];have hn:=r3.aC hi;subst hn;exact k H3 w [] zJ r3 .nil
 |_=>cases h4
theorem De:FP X (.Dict [] [] pos) (eC (.bP [])):=by
 refine⟨_,aa2,@λH0 S z aq ρ σ H Q d tg ok e k p hp=>?_⟩;cases e;have s2:aH H (upd H p (.dK [])):=λb o e=>by rw[aP (cV e hp)];exact e
 exact k _ _ [p] s2 (.bP cB rfl .nil) ⟨abV.mpr ⟨(λm=>by cases m),acj⟩,λa m=>by cases aa3.mp m;exact hp⟩
noncomputable def rZ(i:Nat):Slot->Slot
 |some (d,.sh o)=>if o.contains i=true then none else some (d,.sh o)
 |s=>s
def bT(ρ:aO)(i:Nat)(d:D):aO:=(ρ.map (rZ i)).set i (some (d,.own))
theorem H_(e:rZ i s=some (d,t)):s=some (d,t)/\∀o,t=.sh o->i∉o:=by
 cases s with
 |none=>cases e
 |some w=>
  obtain⟨d',t'⟩:=w;cases t' with
  |sh o=>
   have e:(if o.contains i=true then none else some (d',Tag.sh o))=some (d,t):=e
   split at e
   .cases e
   .rename_i hc;cases e;exact⟨rfl,λo' eo m=>by cases eo;exact hc (adB.mpr m)⟩
  |own=>cases e;exact⟨rfl,λo eo=>by cases eo⟩
  |lk=>cases e;exact⟨rfl,λo eo=>by cases eo⟩
theorem IA(hj:j≠i)(e:(bT ρ i d1)[j]? = some (some (d,t))):ρ[j]? = some (some (d,t))/\(P\/∀o,t=.sh o->i∉o):=by
 unfold bT at e;rw[acO (afr hj),aco] at e;obtain⟨s,e0,e⟩:=acq.mp e;obtain⟨rfl,n⟩:=H_ e;exact⟨e0,.inr n⟩
theorem HY(h:ρ[i]? = some d0):(bT ρ i d1)[i]? = some (some (d1,.own)):=aer (by rw[List.length_map];exact(abL.mp h).1)
theorem Ax:(bT ρ i d1).length=ρ.length:=by unfold bT;rw[agq,List.length_map]
theorem Ok.put{K:PySem.W.Frag}(ok:Ok K H0 S z aq ρ σ H)(h:ρ[i]? = some (some (d0,.own)))
  (hs:σ[i]? = some (some v)) (zz:vW z i .own bH) (im:a_ H H') (keep:∀b o,b∉bH->H b=some o->H' b=some o) (r1:Rep K H' d1 v bR) (nd:bR.Nodup) (fr:∀b∈bR,b∈bH\/H b=none):∃z',Ok K H0 S z' aq (bT ρ i d1) σ H':=
 ⟨_,ok.chg (HY h) hs zz.2 im keep r1 ⟨nd,λa m=>if_pos m⟩ (II zz.2) (λa m=>⟨fr a m,let⟨o,w,_⟩:=r1.cC a m;⟨o,w⟩⟩) IA (λ_ _=>rfl) (.inr λn=>n _ h) (Ax.trans ok.ln)⟩
theorem Ok.IS{K:PySem.W.Frag}(ok:Ok K H0 S z aq ρ σ H)(h:ρ[i]? = some (some (d0,.own)))
  (hs:σ[i]? = some (some v)) (zz:vW z i .own fp) (hp:p∈fp) (ho:H p=some o) (mo:i7 o=true) (r1:Rep K (upd H p o') d1 v fp):Ok K H0 S z aq (bT ρ i d1) σ (upd H p o'):=
 ok.chg (HY h) hs zz.2 (a_.upd ho mo) (λb o n e=>by rw[aP λq:b=p=>n (q ▸ hp)];exact e) r1 zz (λa n=>.inr ⟨rfl,n,λ_ n=>n _ h⟩) (λa m=>⟨.inl m,let⟨o,w,_⟩:=r1.cC a m;⟨o,w⟩⟩) IA (λ_ _=>rfl) (.inr λn=>n _ h) (Ax.trans ok.ln)
def qT(i:Nat)(fk fv:EF):SF:=λρ=>match fv ρ,ρ[i]?,fk ρ with
 |some (d,_),some (some (.bP es,.own)),some (kd,_)=>match iA kd with
  |some k=>if(aC d&&aN (es.map (·.2))&&decide (es.length<sizeLine))=true then some (.nx (bT ρ i (.bP (putD es k d)))) else none
  |none=>none
 |_,_,_=>none
theorem Bo(i:Nat){x:Str}{k v:Expr}(hu:X.A.units+1<cLine)(hk:FP X k fk)(hv:FP X v fv)(va:VA X i x:=by walk_at "va")(hs:swapsWith v (some (.Subscript (.Name x p1) k pos')) pos.line X.env=pure false:=by rfl):
  eV X (.Assign [.Subscript (.Name x p1) k pos'] v pos) (qT i fk fv):=by
 obtain⟨tk,pk,sk⟩:=hk;obtain⟨tv,l5,sv⟩:=hv;exists 25,Bu hu va.pe pk l5 hs;unfold qT at e
 split at e
 .rename_i d td es kd N1 h1 h2 h3;exists h4,iA kd,key,e;exists 70;obtain⟨hc,e⟩:=ci e;cases e;obtain⟨ET,hc3⟩:=(abn _ _).mp hc;obtain⟨ET,JB⟩:=(abn _ _).mp ET;have hz:=abd hc3;refine sv ok h1 λH1 v v8 s1 rv _=>?_
  obtain⟨xv,fp,cN,r,zz⟩:=(ok.same s1).sl i _ _ h2;refine⟨xv,cN,?_⟩;refine sk (ok.same s1) h3 λH2 y RV s2 rk _=>?_
  have ek:=rk.key h4;subst ek;have r':=r.same s2;cases r' with
  | @bP a ak _ f h gU rs=>
   have hn:=rs.aC JB;subst hn;have F3:=rv.aC ET;subst F3;have hl:ak.length=es.length:=by have:=congrArg List.length gU;simpa using this.symm
   refine⟨a,_,rfl,oZ.k h (by rw[hl];exact hz),?_⟩;have im:a_ H2 (upd H2 a (.dK (putK ak key v))):=a_.upd h rfl;refine q z σ _ (Ok.IS ((ok.same s1).same s2) h2 cN zz aar h rfl (.bP cB (ye gU) ?_)) (.refl _ _);exact IP gU (rs.frame (λa m=>nomatch m) im) ((rv.same s2).frame (λa m=>nomatch m) im)
 .cases e
noncomputable def ux(x:Int):List Int->List Int
 |[]=>[x]
 |y::r=>if x<=y then x::y::r else y::ux x r
def dQ:List Int->List Int
 |[]=>[]
 |x::r=>ux x (dQ r)
theorem Fi(x:Int):∀l:List Int,(ux x l).Perm (x::l)
 |[]=>.refl _
 |y::r=>by
  unfold ux
  split
  .exact .refl _
  .exact((Fi x r).cons y).trans (.swap x y r)
theorem tQ:∀l:List Int,(dQ l).Perm l
 |[]=>.refl _
 |x::r=>(Fi x (dQ r)).trans ((tQ r).cons x)
theorem Nr(x:Int):∀{l},l.Pairwise (·<=·)->(ux x l).Pairwise (·<=·)
 |[],_=>List.pairwise_singleton _ _
 |y::r,h=>by
  obtain⟨h1,h2⟩:=adK.mp h;unfold ux
  split
  .rename_i hx;exact adK.mpr ⟨λz m=>(abb.mp m).elim (λe=>e ▸ hx) λm=>Int.le_trans hx (h1 z m),h⟩
  .rename_i hx;refine adK.mpr ⟨λz m=>?_,Nr x h2⟩;rcases abb.mp ((Fi x r).mem_iff.mp m) with e|m
   .rw[e];lia
   .exact h1 z m
theorem CL:∀l:List Int,(dQ l).Pairwise (·<=·)
 |[]=>.nil
 |x::r=>Nr x (CL r)
theorem Za(p:a.Perm b)(s:a.Pairwise (·<=·)):a=dQ b:=by
 have q:=p.trans (tQ b).symm;exact q.eq_of_pairwise (λx y _ _ h1 h2=>Int.le_antisymm h1 h2) s (CL b)
theorem Ci(l:List Int):(dQ l).length=l.length:=(tQ l).length_eq
noncomputable def d_:List D->Option (List Int)
 |[]=>some []
 |.int i::r=>(d_ r).map (i::·)
 |_=>none
noncomputable def jz{α:Type}:List (Key×α)->Option (List Int)
 |[]=>some []
 |(.inl i,_)::r=>(jz r).map (i::·)
 |_=>none
theorem rq{K:PySem.W.Frag}:∀{ds} {xs} {fp} {ns},aB K H ds xs fp->d_ ds=some ns->xs=ns.map V.int
 |_,_,_,ns,.nil,e=>by cases e;rfl
 |_,_,_,ns,.cons (d:=d) h t,e=>by
  cases d with
  |int i=>
   unfold d_ at e;exists q,d_ _,r,e;cases e;cases h;rw[rq t q];rfl
  |_=>cases e
theorem vj(ns:List Int):d_ (ns.map D.int)=some ns:=by
 induction ns with
 |nil=>rfl
 |cons n r ih=>rw[aas];unfold d_;rw[ih];rfl
theorem NT:∀{es:List (Key×α)} {ks},jz es=some ks->es.map (·.1)=ks.map Sum.inl
 |[],ks,e=>by cases e;rfl
 |(.inl i,_)::r,ks,e=>by
  unfold jz at e;exists q,jz r,l,e;cases e;rw[aas,NT q];rfl
 |(.inr _,_)::_,_,e=>by cases e
def mS:D->Option D
 |.lst ds=>match d_ ds with
  |some ns=>if ns.length<64 then some (.lst ((dQ ns).map D.int)) else none
  |none=>none
 |.bP es=>match jz es with
  |some ns=>if ns.length<64 then some (.lst ((dQ ns).map D.int)) else none
  |none=>none
 |_=>none
theorem wN{K:PySem.W.Frag}:∀ns:List Int,aB K H (ns.map D.int) (ns.map V.int) []
 |[]=>.nil
 |n::r=>aB.cons (.int n) (wN r)
theorem XC{K:PySem.W.Frag}:oz K (K8 K) mS:=by
 exists 46;have fin:∀(ns:List Int),(if ns.length<64 then some (D.lst ((dQ ns).map D.int)) else none)=some d->ns.length<64/\∀l (nW:List Int),H l=none->nW.Perm ns->nW.Pairwise (·<=·)->Q (.ref l) (upd H l (.lst (nW.map V.int))):=λns e=>by
  by_cases h:ns.length<64
  .rw[if_pos h] at e;cases e;refine⟨h,λl nW hl p s=>?_⟩;have eq:=Za p s;subst eq;have s2:aH H (upd H l (.lst ((dQ ns).map V.int))):=λb o e=>by rw[aP (cV e hl)];exact e
   exact k _ _ [l] s2 (.lst cB (wN _)) (abV.mpr ⟨(λm=>by cases m),acj⟩) λa m=>by cases aa3.mp m;exact hl
  .rw[if_neg h] at e;cases e
 cases d1 with
 |lst ds=>
  exists 80;have e:(match d_ ds with|some ns=>if ns.length<64 then some (D.lst ((dQ ns).map D.int)) else none|none=>none)=some d:=e;cases h:d_ ds with
  |none=>rw[h] at e;cases e
  |some ns=>
   rw[h] at e;obtain⟨h1,h2⟩:=fin ns e;have ex:=rq rs h;subst ex;exact⟨a,ns,rfl,h1,.inr hq,h2⟩
 |bP es=>
  cases r with
  | @bP a ak _ fp h hk rs=>
   have e:(match jz es with|some ns=>if ns.length<64 then some (D.lst ((dQ ns).map D.int)) else none|none=>none)=some d:=e;cases h':jz es with
   |none=>rw[h'] at e;cases e
   |some ns=>
    rw[h'] at e;obtain⟨h1,h2⟩:=fin ns e;exact⟨a,ns,rfl,h1,.inl ⟨ak,h,by rw[<- hk];exact NT h'⟩,h2⟩
 |_=>cases e
def jK:List D->Option (List (Key×D))
 |[]=>some []
 |.tup [kd,d]::r=>match iA kd,jK r with
  |some k,some ps=>if aC d=true then some ((k,d)::ps) else none
  |_,_=>none
 |_=>none
def BP:D->Option D
 |.lst ds=>(jK ds).map λps=>.bP (ps.foldl (λm p=>putD m p.1 p.2) [])
 |.tup ds=>(jK ds).map λps=>.bP (ps.foldl (λm p=>putD m p.1 p.2) [])
 |.bP es=>if aN (es.map (·.2))=true then some (.bP es) else none
 |_=>none
theorem Su:bootBuiltins "min"=some (.builtin "min"):=by decide +kernel
theorem adV:bootBuiltins "sorted"=some (.builtin "sorted"):=by decide +kernel
theorem Eh(hc:X.calm=true)(hm:X.mg "sorted"=none)(ha:FP X a fa)(hg:Gl X "sorted":=by rfl)(hs:Y2 X a:=by rfl):FP X (.Call (.Name "sorted" p) [a] [] pos) (e1 mS fa):=
 fp_1 XC ha λta pa=>lR (ZH hc) hg hm adV (cP pa eT hs) (he:=hs)
def wA:D->D->Option D:=uW λi j=>if j<i then j else i
noncomputable def jZ:List Int->Int
 |[]=>0
 |[x]=>x
 |x::r=>if x<=jZ r then x else jZ r
theorem DG:∀{l},l≠[]->jZ l∈l/\∀x∈l,jZ l<=x
 |[x],_=>⟨aar,λy m=>by rw[aa3.mp m];exact Int.le_refl _⟩
 |x::y::r,_=>by
  obtain⟨h1,h2⟩:=DG (l:=y::r) (by simp);show(if x<=jZ (y::r) then x else jZ (y::r))∈_/\∀z∈_,(if x<=jZ (y::r) then x else jZ (y::r))<=z
  by_cases h:x<=jZ (y::r)
  .rw[if_pos h];exact⟨aar,λz m=>(abb.mp m).elim (λe=>by rw[e];exact Int.le_refl _) λm=>Int.le_trans h (h2 z m)⟩
  .rw[if_neg h];exact⟨aaa _ h1,λz m=>(abb.mp m).elim (λe=>by rw[e];lia) λm=>h2 z m⟩
def Xb:D->D->Option D
 |.lst ds,z=>match d_ ds with
  |some []=>if aC z=true then some z else none
  |some (n::r)=>some (.int (jZ (n::r)))
  |none=>none
 |_,_=>none
theorem Kr(hc:X.calm=true)(hm:X.mg "min"=none)(ha:FP X a fa)(hb:FP X b fb)(hg:Gl X "min":=by rfl)(hs:starEach [a,b] X.env=[(false,eval a X.env),(false,eval b X.env)]:=by rfl)(cJ:Y2 X b:=by rfl)(hpl:(backTo pos (starEach [b] X.env)).any (·.1)=false:=by rfl):
  FP X (.Call (.Name "min" p) [a,b] [] pos) (e2 wA fa fb):=by
 exists 51;exists 21,lR (XM hc) hg hm Su (cP pa (cP pb eT cJ) (by rw[hs,cJ])) (he:=by rw[hs,cJ]) (hpl:=hpl);obtain⟨d1,t1,d2,t2,h1,h2,h3,rfl⟩:=nR e;refine sa ok h1 λH1 x f1 s1 r1 _=>?_
 refine sb (ok.same s1) h2 λH2 y f2 s2 r2 _=>?_
 unfold wA uW at h3
 split at h3
 .cases h3;exact⟨_,_,by rw[r1.iy.1,r2.iy.1],k H2 _ [] (s1.trans s2) (.int _) .nil⟩
 .cases h3
theorem TR(hc:X.calm=true)(hm:X.mg "min"=none)(ha:FP X a fa)(hb:FP X b fb)(hg:Gl X "min":=by rfl)(hs:Y2 X a:=by rfl)
  (h1:backTo pos (starEach [a] X.env)=(false,eval a X.env)::backTo pos (starEach [] X.env):=by rfl) (h2:(backTo pos (starEach [a] X.env)).any (·.1)=false:=by rfl)
  (h3:(backToKw pos (keywordEach [⟨some "default",b,kp⟩] X.env)).all (·.1.isSome)=true:=by rfl) (h4:(backToKw pos (keywordEach [⟨some "default",b,kp⟩] X.env)).any (·.1.isNone)=false:=by rfl)
  (h5:(backToKw pos (keywordEach [⟨some "default",b,kp⟩] X.env)).filterMap (·.1)=[("default":Str)]:=by rfl) :
  FP X (.Call (.Name "min" p) [a] [⟨some "default",b,kp⟩] pos) (e2 Xb fa fb):=by
 exists 51;exists 21,VX hc hm pa pb hg hs h1 h2 h3 h4 h5;obtain⟨d1,t1,d2,t2,g1,g2,g3,rfl⟩:=nR e;refine sa ok g1 λH1 x f1 s1 r1 _=>?_
 refine sb (ok.same s1) g2 λH2 y f2 s2 r2 _=>?_
 cases d1 with
 |lst ds=>
  obtain⟨l,xs,f,rfl,hq,rs,_⟩:=(r1.same s2).dY;have g3:(match d_ ds with|some []=>if aC d2=true then some d2 else none|some (n::r)=>some (.int (jZ (n::r)))|none=>none)=some d:=g3;cases h:d_ ds with
  |none=>rw[h] at g3;cases g3
  |some ns=>
   rw[h] at g3;have ex:=rq rs h;subst ex;refine⟨l,ns,rfl,hq,?_⟩;cases ns with
   |nil=>
    have g3:=g3
    by_cases hi:aC d2=true
    .rw[if_pos hi] at g3;cases g3;have hn:=r2.aC hi;subst hn;exact .inl ⟨rfl,k H2 y [] (s1.trans s2) r2 .nil⟩
    .rw[if_neg hi] at g3;cases g3
   |cons n r=>
    cases g3;refine .inr ⟨by simp,λm oS uc=>?_⟩;obtain⟨q1,q2⟩:=DG (l:=n::r) (by simp);have em:=Int.le_antisymm (uc _ q1) (q2 m oS);rw[em];exact k H2 _ [] (s1.trans s2) (.int _) .nil
 |_=>cases g3
theorem KR{K:PySem.W.Frag}:∀{ds} {xs} {fp} {ps},aB K H ds xs fp->jK ds=some ps->
  ∃qs:List (Key×V),Paired (λy (q:Key×V)=>∃a,y=.ref a/\ck K H a [L2.kV q.1,q.2]) xs qs/\ps.map (·.1)=qs.map (·.1)/\aB K H (ps.map (·.2)) (qs.map (·.2)) []
 |_,_,_,ps,.nil,e=>by cases e;exact⟨[],.nil,rfl,.nil⟩
 |_,_,_,ps,.cons (d:=d) (ds:=dr) h t,e=>by
  unfold jK at e
  split at e
  .rename_i heq;cases heq
  .rename_i kd d' r heq;cases heq;exists h1,iA kd,k,e,0;cases h2:jK dr with
   |none=>rw[h1,h2] at e;cases e
   |some pr=>
    rw[h1,h2] at e;exists 70;exists 84;cases e;obtain⟨qs,a1,a2,a3⟩:=KR t h2;obtain⟨a,ys,rfl,hq,rs⟩:=h.i8;cases rs with
    |cons rk rs=>
     cases rs with
     |cons rv rs=>
      cases rs with
      |nil=>
       have ek:=rk.key h1;subst ek;have hn:=rv.aC hi;subst hn;exact⟨(k,_)::qs,.cons ⟨a,rfl,hq⟩ a1,by rw[aas,aas,a2],aB.cons rv a3⟩
  .cases e
theorem Ml{K:PySem.W.Frag}:∀{ps:List (Key×D)}{qs:List (Key×V)} {es} {ak},ps.map (·.1)=qs.map (·.1)->aB K H (ps.map (·.2)) (qs.map (·.2)) []->es.map (·.1)=ak.map (·.1)->aB K H (es.map (·.2)) (ak.map (·.2)) []->
  (ps.foldl (λm p=>putD m p.1 p.2) es).map (·.1)=(qs.foldl (λm q=>putK m q.1 q.2) ak).map (·.1)/\aB K H ((ps.foldl (λm p=>putD m p.1 p.2) es).map (·.2)) ((qs.foldl (λm q=>putK m q.1 q.2) ak).map (·.2)) []
 |[],[],_,_,_,_,h1,h2=>⟨h1,h2⟩
 |[],_::_,_,_,e,_,_,_=>by simp at e
 |_::_,[],_,_,e,_,_,_=>by simp at e
 |(k,d)::ps,(k',v)::qs,es,ak,e,r,h1,h2=>by
  simp only[aas,afB] at e;obtain⟨rfl,e⟩:=e;simp only[aas] at r;generalize hf:([]:List Addr)=fp at r;cases r with
  | @cons _ _ _ _ f1 f2 r1 r2=>
   obtain⟨z1,z2⟩:=agV.mp hf.symm;subst z1 z2;rw[aeF,aeF];exact Ml e r2 (ye h1) (IP h1 h2 r1)
theorem Vi{K:PySem.W.Frag}:oz K (λxs H Q=>IK K xs H Q\/∃a ak,xs=[V.ref a]/\H a=some (.dK ak)/\∀l,H l=none->Q (.ref l) (upd H l (.dK ak))) BP:=by
 exists 46;have fresh:∀{o:HO} {l},H l=none->aH H (upd H l o):=λhl b o e=>by rw[aP (cV e hl)];exact e
 have NG:∀l:Addr,([l]:List Addr).Nodup:=λl=>abV.mpr ⟨(λm=>by cases m),acj⟩
 have seq:∀{ds} {xs} {f} {p},aB K H ds xs f->(bZ K H p xs\/ck K H p xs)->((jK ds).map λps=>D.bP (ps.foldl (λm p=>putD m p.1 p.2) []))=some d->IK K [.ref p] H Q:=λ{ds xs f p} rs hq e=>by
  exists h,jK ds,ps,e;cases e;obtain⟨qs,a1,a2,a3⟩:=KR rs h;refine⟨p,xs,qs,rfl,hq,a1,λl hl=>?_⟩;obtain⟨b1,b2⟩:=Ml (es:=[]) (ak:=[]) a2 a3 rfl .nil;exact k _ _ [l] (fresh hl) (.bP cB b1 (b2.same (fresh hl))) (NG l) λa m=>by cases aa3.mp m;exact hl
 cases d1 with
 |lst ds=>
  exists 80;exact .inl (seq rs (.inl hq) e)
 |tup ds=>
  obtain⟨a,xs,rfl,hq,rs⟩:=r.i8;exact .inl (seq rs (.inr hq) e)
 |bP es=>
  cases r with
  | @bP a ak _ fp h hk rs=>
   have e:(if aN (es.map (·.2))=true then some (D.bP es) else none)=some d:=e;exists 84;cases e;have hn:=rs.aC hi;subst hn;exact .inr ⟨a,ak,rfl,h,λl hl=>k _ _ [l] (fresh hl) (.bP cB hk (rs.same (fresh hl))) (NG l) λa m=>by cases aa3.mp m;exact hl⟩
 |_=>cases e
section
variable{X:Cx}
theorem aaQ:fX X (.type "dict") (λxs H Q=>∃a ak,xs=[V.ref a]/\H a=some (.dK ak)/\∀l,H l=none->Q (.ref l) (upd H l (.dK ak))):=by
 exists 45;obtain⟨a,ak,rfl,ha,q⟩:=h;exists 81;cases ru;exact afY I (.inl ha) λp s' hp I'=>⟨.ref p,_,I',rfl,q p hp⟩
theorem A7{p:Pos}(hc:X.calm=true)(hm:X.mg "dict"=none)(ha:FP X a fa)(hg:Gl X "dict":=by rfl)(hs:Y2 X a:=by rfl):FP X (.Call (.Name "dict" p) [a] [] pos) (e1 BP fa):=
 fp_1 Vi ha λta pa=>IV (fX.or' (SN hc) aaQ) hg hm (show bootBuiltins "dict"=some (.type "dict") by decide +kernel) (cP pa eT hs) (he:=hs)
def yy:D->Option D
 |.lst ds=>if aN ds=true then some (.tup ds) else none
 |.tup ds=>if aN ds=true then some (.tup ds) else none
 |_=>none
theorem VR:oz X.K (λxs H Q=>∃p ys,xs=[V.ref p]/\((bZ X.K H p ys/\∀l,H l=none->Q (.ref l) (upd H l (.tup ys)))\/(ck X.K H p ys/\Q (.ref p) H))) yy:=by
 exists 46;cases d1 with
 |lst ds=>
  exists 80;have e:(if aN ds=true then some (D.tup ds) else none)=some d:=e;exists 84;cases e;have hn:=rs.aC hi;subst hn;refine⟨a,xs,rfl,.inl ⟨hq,λl hl=>?_⟩⟩;have s2:aH H (upd H l (.tup xs)):=λb o e=>by rw[aP (cV e hl)];exact e
  exact k _ _ [] s2 (.tup (ck.of cB) (rs.same s2)) acj λa m=>nomatch m
 |tup ds=>
  obtain⟨a,xs,rfl,hq,rs⟩:=r.i8;have e:(if aN ds=true then some (D.tup ds) else none)=some d:=e;exists 84;cases e;have hn:=rs.aC hi;subst hn;exact⟨a,xs,rfl,.inr ⟨hq,k H _ [] (aH.refl H) (.tup hq rs) acj λa m=>nomatch m⟩⟩
 |_=>cases e
theorem pI{p:Pos}(hm:X.mg "tuple"=none)(ha:FP X a fa)(hg:Gl X "tuple":=by rfl)(hs:Y2 X a:=by rfl):FP X (.Call (.Name "tuple" p) [a] [] pos) (e1 yy fa):=
 fp_1 VR ha λta pa=>IV Y8 hg hm (show bootBuiltins "tuple"=some (.type "tuple") by decide +kernel) (cP pa eT hs) (he:=hs)
end
mutual
noncomputable def dep:D->Nat
 |.tup a=>Gg a+1
 |.lst a=>Gg a+1
 |_=>0
noncomputable def Gg:List D->Nat
 |[]=>0
 |x::xs=>max (dep x) (Gg xs)
end
def yN(N:List Str)(vE sc:Scope)(M:List Str)(js:List (Option Nat)):Bool:=
 (sc.kind == .function)&&sc.names.all (λy=>y.2 != .cell)&&sc.names.all (λy=>if y.2 == .local then sc.names.lookup y.1==some .local else true)&&pq N sc M js&&(frees sc).all (λx=>vE.names.lookup x==some .cell||vE.names.lookup x==some .free)&&decide M.Nodup
theorem Yc(h1:X.N=N)(h2:X.env.scope=vE)(h3:X.env.kindOf=λx=>vE.names.lookup x)(h:yN N vE sc M js=true):nS X M js sc:=by
 unfold yN at h;obtain⟨h,a6⟩:=(abn _ _).mp h;obtain⟨h,a5⟩:=(abn _ _).mp h;obtain⟨h,a4⟩:=(abn _ _).mp h;obtain⟨h,a3⟩:=(abn _ _).mp h;obtain⟨a1,a2⟩:=(abn _ _).mp h;refine⟨?_,λy hy=>?_,λy hy hl=>?_,?_,λx hx=>?_,abd a6⟩
 .cases hk:sc.kind<;>rw[hk] at a1<;>first|rfl|exact absurd a1 (by decide)
 .have:=ada.mp a2 y hy;intro z;rw[z] at this;exists 88
 .have:=ada.mp a3 y hy;rw[hl] at this;have this:=this;cases q:sc.names.lookup y.1 with
  |none=>rw[q] at this;exists 88
  |some k=>rw[q] at this;cases k<;>first|rfl|exact absurd this (by decide)
 .rw[h1];exact a4
 .have:=ada.mp a5 x hx;rw[h3];dsimp only;cases q:vE.names.lookup x with
  |none=>rw[q] at this;exists 88
  |some k=>rw[q] at this;cases k<;>first|exact .inl rfl|exact .inr rfl|exact absurd this (by decide)
end L2.Ev
namespace L2.Ev
open PySem PySem.Spec PyProof.Rows
theorem cI.back(g:cI z H1 t fp)(s:aH H H1):cI z H t fp:=by
 cases t with
 |sh o=>exact g
 |own=>exact⟨g.1,λa m=>s.free (g.2 a m)⟩
 |lk=>exact⟨g.1,λa m=>s.free (g.2 a m)⟩
noncomputable def xQ(fa fb:EF):EF:=λρ=>match fa ρ with
 |some (.bl true,_)=>fb ρ
 |some (.bl false,_)=>some (.bl false,.own)
 |_=>none
noncomputable def GN(fa fb:EF):EF:=λρ=>match fa ρ with
 |some (.bl true,_)=>some (.bl true,.own)
 |some (.bl false,_)=>fb ρ
 |_=>none
noncomputable def Wa:D->Option D
 |.bl b=>some (.bl (!b))
 |_=>none
theorem qy{op}(h:FP X a fa):FP X (.BoolOp op [a] pos) fa:=let⟨t,p,q⟩:=h;⟨t,RK p,q⟩
theorem pA{rest:List Expr}(ha:FP X a fa)(hb:FP X (.BoolOp .And (b::rest) pos) fb):FP X (.BoolOp .And (a::b::rest) pos) (xQ fa fb):=by
 exists 69;obtain⟨t',p',q'⟩:=hb;exists 21,X7 p p';unfold xQ at e
 split at e
 .rename_i tt h;refine q ok h λH1 v fp s1 r1 _=>?_
  cases r1;refine⟨true,rfl,?_⟩;rw[if_pos rfl];exact q' (ok.same s1) e λH2 v fp s2 r2 g2=>k H2 v fp (s1.trans s2) r2 (g2.back s1)
 .rename_i tt h;cases e;refine q ok h λH1 v fp s1 r1 _=>?_
  cases r1;refine⟨false,rfl,?_⟩;rw[if_neg abz];exact k H1 _ [] s1 (.bl _) .nil
 .cases e
theorem XT{rest:List Expr}(ha:FP X a fa)(hb:FP X (.BoolOp .Or (b::rest) pos) fb):FP X (.BoolOp .Or (a::b::rest) pos) (GN fa fb):=by
 exists 69;obtain⟨t',p',q'⟩:=hb;exists 21,RL p p';unfold GN at e
 split at e
 .rename_i tt h;cases e;refine q ok h λH1 v fp s1 r1 _=>?_
  cases r1;refine⟨true,rfl,?_⟩;rw[if_pos rfl];exact k H1 _ [] s1 (.bl _) .nil
 .rename_i tt h;refine q ok h λH1 v fp s1 r1 _=>?_
  cases r1;refine⟨false,rfl,?_⟩;rw[if_neg abz];exact q' (ok.same s1) e λH2 v fp s2 r2 g2=>k H2 v fp (s1.trans s2) r2 (g2.back s1)
 .cases e
theorem UR(ha:FP X a fa):FP X (.UnaryOp .Not a pos) (e1 Wa fa):=by
 exists 69;exists 21,adi p;obtain⟨d1,t1,h1,h2,rfl⟩:=sX e;refine q ok h1 λH1 v fp s1 r1 _=>?_
 cases r1<;>cases h2
 exact⟨_,rfl,k H1 _ [] s1 (.bl _) .nil⟩
def fW:D->D->Option D
 |.lst ds,.lst es=>if(aN ds&&aN es&&decide (ds.length+es.length<=sizeLine))=true then some (.lst (ds++es)) else none
 |_,_=>none
theorem nu(ha:FP X a fa)(hb:FP X b fb):FP X (.BinOp a .Add b pos) (e2 fW fa fb):=by
 exists 51;exists 20,OS aaX pa pb;exists 86;exists 85
 exists 54
 unfold fW at e3
 split at e3
 .rename_i ds es;obtain⟨hc,e3⟩:=ci e3;cases e3;obtain⟨c1,c3⟩:=(abn _ _).mp hc;obtain⟨c1,c2⟩:=(abn _ _).mp c1;have r1:=r1.same s2;cases r1 with
  | @lst p xs _ f h rs=>
   cases r2 with
   | @lst p' ys _ f' h' GB=>
    have n1:=rs.aC c1;have n2:=GB.aC c2;subst n1 n2;refine⟨p,p',xs,ys,rfl,rfl,h,h',by rw[<- rs.length,<- GB.length];exact abd c3,λl hl=>?_⟩;have s3:aH H2 (upd H2 l (.lst (xs++ys))):=λb o e=>by rw[aP (cV e hl)];exact e
    have rr:=aB.append rs GB;refine q _ _ [l] ((s1.trans s2).trans s3) (.lst cB (rr.same s3)) ⟨abV.mpr ⟨(λm=>by cases m),acj⟩,λa m=>?_⟩;cases aa3.mp m;exact(s1.trans s2).free hl
 .cases e3
noncomputable def AJ:D->Option String
 |.int _=>some "int"
 |.bl _=>some "bool"
 |.str _=>some "str"
 |.aA=>some "NoneType"
 |.lst _=>some "list"
 |.bP _=>some "dict"
 |_=>none
def CN(T:String)(d:D):Option D:=match AJ d with
 |some t=>some (.bl (t==T||(t == "bool"&&T == "int")))
 |none=>none
def tY(T:String):Prop:=∀(K) (t),t∈["int","bool","str","NoneType","list","dict"]->PySem.W.kitOne K (.type t) (.type T)=some (t==T||(t == "bool"&&T == "int"))
theorem Wm:tY "int":=by
 intro K t m;simp only[abb,aew,ag8] at m;rcases m with rfl|rfl|rfl|rfl|rfl|rfl<;>rfl
theorem ad2:tY "bool":=by
 intro K t m;simp only[abb,aew,ag8] at m;rcases m with rfl|rfl|rfl|rfl|rfl|rfl<;>rfl
theorem UK:tY "list":=by
 intro K t m;simp only[abb,aew,ag8] at m;rcases m with rfl|rfl|rfl|rfl|rfl|rfl<;>rfl
theorem QY(T:String):fX X (.builtin "isinstance") (λxs H Q=>∃x t b,xs=[x,V.ty T]/\jv X.K H x t/\PySem.W.kitOne X.K t (.type T)=some b/\Q (.bl b) H):=by
 exists 45;obtain⟨x,t,bb,rfl,ty,e,q⟩:=h;obtain⟨u,w',rfl,ru,eW⟩:=vals2 r;cases eW;exact Tj I ru ty e λtk=>⟨.bl bb,H,I.tok tk,rfl,q⟩
theorem Rep.ty{K:PySem.W.Frag}(r:Rep K H d v fp)(e:AJ d=some t):jv K H v (.type t)/\t∈["int","bool","str","NoneType","list","dict"]:=by
 cases r with
 |aA=>cases e;exact⟨.aA,by decide⟩
 |bl b=>cases e;exact⟨.bl b,by decide⟩
 |int i=>cases e;exact⟨.int i,by decide⟩
 |str x=>cases e;exact⟨.str x,by decide⟩
 |lst h _=>cases e;exact⟨.lst h,by decide⟩
 |bP h _ _=>cases e;exact⟨.dK h,by decide⟩
 |tup _ _=>cases e
 |Av _ _=>cases e
 |cZ _ _ _=>cases e
 |ins _ _ _ _=>cases e
 |exc _ _ _=>cases e
theorem HF{T:String}(hT:tY T)(hm:X.mg "isinstance"=none)(F0:X.mg x=none)(ha:FP X a fa)(Fo:bootBuiltins x=some (.type T):=by decide +kernel)(hg:Gl X "isinstance":=by rfl)(GV:Gl X x:=by rfl)(hn:x≠"__name__":=by decide)(f7:(x==("__debug__":Str))=false:=by decide)
  (hs:starEach [a,.Name x p2] X.env=[(false,eval a X.env),(false,eval (.Name x p2) X.env)]:=by rfl) (hpl:(backTo pos (starEach [.Name x p2] X.env)).any (·.1)=false:=by rfl):FP X (.Call (.Name "isinstance" p) [a,.Name x p2] [] pos) (e1 (CN T) fa):=by
 obtain⟨ta,pa,sa⟩:=ha;exists 65;exists 21,lR (QY T) hg hm (show bootBuiltins "isinstance"=some (.builtin "isinstance") by decide +kernel) (cP pa (cP (OD (v:=.ty T) GV F0 Fo rfl hn f7) eT) (by rw[hs,cJ])) (he:=by rw[hs,cJ]);obtain⟨d1,t1,h1,h2,rfl⟩:=sX e;refine sa ok h1 λH1 v fp s1 r1 _=>?_
 unfold CN at h2;exists ht,AJ d1,t,h2;cases h2;obtain⟨ty,mem⟩:=r1.ty ht;exact⟨v,_,_,rfl,ty,hT X.K t mem,k H1 _ [] s1 (.bl _) .nil⟩
end L2.Ev
namespace L2.Ev
open PySem
noncomputable def k3(op:D->D->D->Option D):Option (D×Tag)->Option (D×Tag)->Option (D×Tag)->Option (D×Tag)
 |some (d1,_),some (d2,_),some (d3,_)=>(op d1 d2 d3).map λd=>(d,.own)
 |_,_,_=>none
theorem Kv:e3 Xz fa fb fc ρ=k3 Xz (fa ρ) (fb ρ) (fc ρ):=by unfold e3 k3;cases fa ρ<;>cases fb ρ<;>cases fc ρ<;>rfl
noncomputable def LB(fb:EF)(ρ:aO):Option (D×Tag)->Option (D×Tag)
 |some (.bl true,_)=>fb ρ
 |some (.bl false,_)=>some (.bl false,.own)
 |_=>none
theorem Xg:xQ fa fb ρ=LB fb ρ (fa ρ):=by
 unfold xQ LB;cases fa ρ with
 |none=>rfl
 |some w=>obtain⟨d,t⟩:=w;cases d<;>first|rfl|(rename_i b;cases b<;>rfl)
theorem Ua:gR d .aA=some (.bl (oH d)):=rfl
theorem Ni(P:Nat->aO->Prop):∀{ds} {ρ} {n},P n ρ->(∀j ρ d,ds[j]? = some d->P (n+j) ρ->∃aS bh,g d t ρ=some aS/\(f aS=some (.nx bh)\/f aS=some (.ct bh))/\P (n+j+1) bh)->
  ∃ρ',dh g t f ds ρ=some (.nx ρ')/\P (n+ds.length) ρ'
 |[],ρ,n,h,_=>⟨ρ,rfl,h⟩
 |d::ds,ρ,n,h,hs=>by
  obtain⟨aS,bh,h1,h2,h3⟩:=hs 0 ρ d rfl h;obtain⟨ρ',h4,h5⟩:=Ni P h3 λj ρ d hd hp=>by
   have:=hs (j+1) ρ d hd (by rw[show n+(j+1)=n+1+j by lia];exact hp);rw[show n+(j+1)+1=n+1+j+1 by lia] at this;exact this
  refine⟨ρ',?_,by rw[acf,show n+(ds.length+1)=n+1+ds.length by lia];exact h5⟩;unfold dh;rw[h1];rcases h2 with h2|h2<;>(dsimp only;rw[h2];exact h4)
theorem vz(hi:it ρ=some (ds,t))(h:dh g (k_ t) f ds (nX (mK (lD t) ρ) ρ)=some (.nx ρ')):jk it g f ρ=some (.nx (sA (mK (lD t) ρ) ρ')):=by unfold jk;rw[hi];dsimp only;rw[h]
theorem Sb(hi:it ρ=some (ds,t))(h:dh g (k_ t) f ds (nX (mK (lD t) ρ) ρ)=some (.rt r)):jk it g f ρ=some (.rt r):=by unfold jk;rw[hi];dsimp only;rw[h]
theorem vK(hi:it ρ=some (ds,.own))(h:dh g (.sh []) f ds ρ=some (.nx ρ')):jk it g f ρ=some (.nx ρ'):=vz hi h
theorem Bl(hi:it ρ=some (ds,.own))(h:dh g (.sh []) f ds ρ=some (.rt r)):jk it g f ρ=some (.rt r):=Sb hi h
theorem Xu(h:e ρ=some (.int n,t))(hs:small n=true):xD e ρ=some ((List.range n.toNat).map λi:Nat=>D.int (0+(i:Int)),.own):=by unfold xD;rw[h];dsimp only;rw[if_pos hs]
theorem gW(h:e ρ=some (.lst ds,t)):iC e ρ=some (ds,t):=by unfold iC;rw[h]
theorem Ux(h:e ρ=some (.tup ds,t)):iC e ρ=some (ds,t):=by unfold iC;rw[h]
theorem jQ(hi:it ρ=some (ds,t))(hl:ds.length<sizeLine)(h:∀d∈ds,iW g tt te (ju js ρ) d=some (k d)):
  iX js it g tt te ρ=some (.lst (ds.filterMap k),.own):=by unfold iX;rw[hi];dsimp only;rw[if_pos hl,LQ h];rfl
theorem zL(h1:g d (.sh []) ρ=some aS)(h2:tt aS=some false):iW g tt te ρ d=some none:=by unfold iW;rw[h1];dsimp only;rw[h2]
theorem qQ(h1:g d (.sh []) ρ=some aS)(h2:tt aS=some true)(h3:te aS=some (e,.own)):iW g tt te ρ d=some (some e):=by unfold iW;rw[h1];dsimp only;rw[h2];dsimp only;rw[h3];rfl
theorem rG(h1:g d (.sh []) ρ=some aS)(h2:tt aS=some true)(h3:te aS=some (e,tg))(hi:aC e=true):iW g tt te ρ d=some (some e):=by
 unfold iW;rw[h1];dsimp only;rw[h2];dsimp only;rw[h3];dsimp only
 by_cases ho:jT tg=true
 .rw[if_pos ho]
 .rw[if_neg ho,if_pos hi]
noncomputable def kI(p:Int×Int):Key×D:=(Sum.inl p.1,.int p.2)
def bK(es:List (Int×Int)):D:=.bP (es.map kI)
noncomputable def bQ(es:List (Int×Int))(k:Int):Option Int:=(es.find? λp=>decide (p.1=k)).map (·.2)
noncomputable def gH(es:List (Int×Int))(k v:Int):List (Int×Int):=if(es.any λp=>decide (p.1=k))=true then es.map (λp=>if p.1=k then(p.1,v) else p) else es++[(k,v)]
theorem uu:((Sum.inl a:Key)=Sum.inl k)↔a=k:=⟨λh=>ahh h,λh=>by rw[h]⟩
theorem LS(es:List (Int×Int))(k:Int):bB (es.map kI) (Sum.inl k:Key)=(bQ es k).map D.int:=by
 unfold bB bQ
 induction es with
 |nil=>rfl
 |cons p r ih=>
  rw[aas,adz,adz]
  by_cases h:p.1=k
  .rw[aa1 (show(kI p).1=Sum.inl k from uu.mpr h),aa1 h];rfl
  .rw[abR (show ¬(kI p).1=Sum.inl k from λe=>h (uu.mp e)),abR h];exact ih
theorem Ry(es:List (Int×Int))(k v:Int):putD (es.map kI) (Sum.inl k:Key) (.int v)=(gH es k v).map kI:=by
 unfold putD gH;have e:((es.map kI).any λkv=>decide (kv.1=(Sum.inl k:Key)))=es.any λp=>decide (p.1=k):=by
  rw[agJ]
  congr 1
  funext p
  exact agT.mpr uu
 rw[e]
 by_cases h:(es.any λp=>decide (p.1=k))=true
 .rw[if_pos h,if_pos h,ac4,ac4]
  congr 1
  funext p
  show(if(kI p).1=Sum.inl k then((kI p).1,D.int v) else kI p)=kI (if p.1=k then(p.1,v) else p)
  by_cases hp:p.1=k
  .rw[if_pos hp,if_pos (show(kI p).1=Sum.inl k from uu.mpr hp)];rfl
  .rw[if_neg hp,if_neg (show ¬(kI p).1=Sum.inl k from λe=>hp (uu.mp e))]
 .rw[if_neg h,if_neg h,ade];rfl
theorem RO:tE (bK es) (.int k) (.int z)=some (.int ((bQ es k).getD z)):=by
 show(match bB (es.map kI) (Sum.inl k:Key) with|some d=>if aC d=true then some d else none|none=>if aC (.int z)=true then some (.int z) else none)=_;rw[LS];cases bQ es k<;>rfl
theorem SV(h:bQ es k=some v):oi (bK es) (.int k)=some (.int v):=by
 show((bB (es.map kI) (Sum.inl k:Key)).bind λd=>if aC d=true then some d else none)=_;rw[LS,h];rfl
theorem O2:∀es:List (Int×Int),jz (es.map kI)=some (es.map (·.1))
 |[]=>rfl
 |p::r=>by rw[aas];show(jz (r.map kI)).map (p.1::·)=_;rw[O2 r];rfl
theorem acZ(h:es.length<64):mS (bK es)=some (.lst ((dQ (es.map (·.1))).map D.int)):=by
 show(match jz (es.map kI) with|some ns=>if ns.length<64 then some (D.lst ((dQ ns).map D.int)) else none|none=>none)=_;rw[O2];dsimp only;rw[if_pos (by rw[List.length_map];exact h)]
theorem OC:∀es:List (Int×Int),aN ((es.map kI).map (·.2))=true
 |[]=>rfl
 |p::r=>by rw[aas,aas];unfold aN;rw[OC r];rfl
theorem GQ(h1:fv ρ=some (.int v,t1))(h2:ρ[i]? = some (some (bK es,.own)))(h3:fk ρ=some (.int k,t2))(hl:es.length<sizeLine):
  qT i fk fv ρ=some (.nx (bT ρ i (bK (gH es k v)))):=by
 unfold qT;rw[h1,h2,h3];unfold bK;dsimp only[iA];rw[if_pos (by rw[OC,List.length_map,aa1 hl];rfl),Ry]
theorem AK(es:List (Int×Int))(k v j:Int):bQ (gH es k v) j=if j=k then some v else bQ es j:=by
 unfold gH
 by_cases h:(es.any λp=>decide (p.1=k))=true
 .rw[if_pos h];unfold bQ
  induction es with
  |nil=>cases h
  |cons p r ih=>
   rw[aas,adz,adz]
   by_cases hp:p.1=k
   .rw[if_pos hp];dsimp only
    by_cases hj:j=k
    .rw[aa1 (hp.trans hj.symm),if_pos hj];rfl
    .have r_:¬p.1=j:=λe=>hj (e.symm.trans hp)
     rw[abR r_,if_neg hj];dsimp only
     by_cases hr:(r.any λp=>decide (p.1=k))=true
     .rw[ih hr,if_neg hj]
     .congr 1
      have:r.map (λp=>if p.1=k then(p.1,v) else p)=r:=by
       conv=>rhs;rw[<- List.map_id r]
       refine agc λq m=>?_
       rw[if_neg λe=>hr (ad6.mpr ⟨q,m,aa1 e⟩)];rfl
      rw[this]
   .rw[if_neg hp];have hr:(r.any λp=>decide (p.1=k))=true:=by
     rw[afy,abR hp] at h;exact h
    by_cases hj:p.1=j
    .rw[aa1 hj,if_neg λe=>hp (hj.trans e)]
    .rw[abR hj];exact ih hr
 .rw[if_neg h];unfold bQ;rw[List.find?_append]
  by_cases hj:j=k
  .have:(es.find? λp=>decide (p.1=j))=none:=afE.mpr λq m hq=>h (ad6.mpr ⟨q,m,by rw[<- hj];exact hq⟩)
   rw[this,if_pos hj,hj];simp
  .rw[if_neg hj];have:([(k,v)].find? λp=>decide (p.1=j))=none:=afE.mpr λq m hq=>hj (by cases aa3.mp m;exact(abd hq).symm)
   rw[this,Option.or_none]
theorem NO(es:List (Int×Int))(k v:Int):(gH es k v).map (·.1)=if k∈es.map (·.1) then es.map (·.1) else es.map (·.1)++[k]:=by
 unfold gH
 by_cases h:(es.any λp=>decide (p.1=k))=true
 .have hm:k∈es.map (·.1):=by
   obtain⟨p,m,hp⟩:=ad6.mp h;exact abX.mpr ⟨p,m,abd hp⟩
  rw[if_pos h,if_pos hm,ac4];refine agc λp m=>?_
  show(if p.1=k then(p.1,v) else p).1=p.1
  split<;>rfl
 .have hm:k∉es.map (·.1):=λm=>by
   obtain⟨p,m,hp⟩:=abX.mp m;exact h (ad6.mpr ⟨p,m,aa1 hp⟩)
  rw[if_neg h,if_neg hm,ade];rfl
theorem Oz(h:(es.map (·.1)).Nodup):((gH es k v).map (·.1)).Nodup:=by
 rw[NO]
 by_cases hm:k∈es.map (·.1)
 .rw[if_pos hm];exact h
 .rw[if_neg hm];exact acP.mpr ⟨h,abV.mpr ⟨(λm=>by cases m),acj⟩,λa ha b hb e=>hm (by cases aa3.mp hb;exact e ▸ ha)⟩
theorem afN:(gH es k v).length<=es.length+1:=by
 have:=congrArg List.length (NO es k v);rw[List.length_map] at this;rw[this]
 split
 .rw[List.length_map];lia
 .rw[abN,List.length_map];exact abT _
theorem sF:(∃v,bQ es k=some v)↔k∈es.map (·.1):=by
 unfold bQ;constructor
 .rintro⟨v,h⟩
  cases e:es.find? λp=>decide (p.1=k) with
  |none=>rw[e] at h;cases h
  |some p=>exact abX.mpr ⟨p,agH e,abd (ahg e :)⟩
 .intro h;obtain⟨p,m,hp⟩:=abX.mp h;cases e:es.find? λp=>decide (p.1=k) with
  |none=>exact absurd (aa1 hp) (afE.mp e p m)
  |some q=>exact⟨q.2,rfl⟩
def jN(ps:List (Int×Int)):List (Int×Int):=ps.foldl (λm p=>gH m p.1 p.2) []
theorem foldI:∀(ps m:List (Int×Int)),(ps.map kI).foldl (λm p=>putD m p.1 p.2) (m.map kI)=(ps.foldl (λm p=>gH m p.1 p.2) m).map kI
 |[],_=>rfl
 |p::r,m=>by rw[aas,aeF,aeF];show(r.map kI).foldl _ (putD (m.map kI) (Sum.inl p.1) (.int p.2))=_;rw[Ry];exact foldI r _
noncomputable def dP(p:Int×Int):D:=.tup [.int p.1,.int p.2]
theorem M4:∀ps:List (Int×Int),jK (ps.map dP)=some (ps.map kI)
 |[]=>rfl
 |p::r=>by
  rw[aas];show(match iA (.int p.1),jK (r.map dP) with|some k,some ps=>if aC (.int p.2)=true then some ((k,D.int p.2)::ps) else none|_,_=>none)=_;rw[M4 r];rfl
theorem QM:BP (.lst (ps.map dP))=some (bK (jN ps)):=by
 show(jK (ps.map dP)).map _=_;rw[M4];show some (D.bP ((ps.map kI).foldl (λm p=>putD m p.1 p.2) []))=_;rw[show([]:List (Key×D))=([]:List (Int×Int)).map kI from rfl,foldI];rfl
theorem Q6(hn:(ps.map (·.1)).Nodup)(k:Int):bQ (jN ps) k=bQ ps k:=by
 have go:∀(ps m),(ps.map (·.1)).Nodup->bQ (ps.foldl (λm p=>gH m p.1 p.2) m) k=(bQ ps k).or (bQ m k):=by
  intro ps
  induction ps with
  |nil=>intro m _;rfl
  |cons p r ih=>
   intro m h;rw[aas] at h;obtain⟨h1,h2⟩:=abV.mp h;rw[aeF,ih _ h2,AK]
   by_cases hk:k=p.1
   .have hr:bQ r k=none:=by
     cases e:bQ r k with
     |none=>rfl
     |some v=>exact absurd (sF.mp ⟨v,e⟩) (hk ▸ h1)
    rw[hr,if_pos hk];unfold bQ;rw[adz,aa1 hk.symm];rfl
   .rw[if_neg hk];have:bQ (p::r) k=bQ r k:=by unfold bQ;rw[adz,abR λe=>hk e.symm]
    rw[this]
 unfold jN;rw[go ps [] hn];cases bQ ps k<;>rfl
open PySem PySem.Spec PyProof.Rows
mutual
noncomputable def py:D->PyData
 |.bl b=>.bool b
 |.int i=>.int i
 |.str x=>.str x
 |.tup ds=>.tuple (dO ds)
 |.lst ds=>.list (dO ds)
 |.gG ds=>.list (dO ds)
 |_=>.none
noncomputable def dO:List D->List PyData
 |[]=>[]
 |d::ds=>py d::dO ds
end
mutual
noncomputable def fN:D->Bool
 |.aA|.bl _|.int _|.str _=>true
 |.tup ds|.lst ds|.gG ds=>lX ds
 |_=>false
noncomputable def lX:List D->Bool
 |[]=>true
 |d::ds=>fN d&&lX ds
end
mutual
theorem mF(I:Inv X af σ H s):∀{d} {v} {f} {u},Rep X.K H d v f->RelV v u->fN d=true->∃as,Reads s.heap u (py d) as
 |.aA,_,_,_,r,q,_=>by cases r;cases q;exact⟨_,by unfold py;exact .none⟩
 |.bl b,_,_,_,r,q,_=>by cases r;cases q;exact⟨_,by unfold py;exact .bool b⟩
 |.int i,_,_,_,r,q,_=>by cases r;obtain⟨t,rfl⟩:=q;exact⟨_,by unfold py;exact .int i t⟩
 |.str x,_,_,_,r,q,_=>by cases r;obtain⟨t,rfl⟩:=q;exact⟨_,by unfold py;exact .str x t⟩
 |.tup ds,_,_,_,r,q,e=>by
  obtain⟨a,xs,rfl,hq,rs⟩:=r.i8;cases q;obtain⟨us,v1,⟨o,h1,h2,n,h3⟩,_⟩:=I.tuple hq;obtain⟨as,ra⟩:=Cn I rs v1 (by unfold fN at e;exact e);exact⟨_,by unfold py;exact .tuple h1 h2 h3 (by simpa using ra)⟩
 |.lst ds,_,_,_,r,q,e=>by
  exists 80;cases q;obtain⟨us,v1,⟨o,n,h1,h2,_,h3⟩,_⟩:=I.list hq;obtain⟨as,ra⟩:=Cn I rs v1 (by unfold fN at e;exact e);exact⟨_,by unfold py;exact .list h1 h2 h3 (by simpa using ra)⟩
 |.gG ds,_,_,_,r,q,e=>by
  obtain⟨a,xs,rfl,hq,rs⟩:=r.rK;cases q;obtain⟨us,v1,⟨o,n,h1,h2,_,h3⟩,_⟩:=I.list hq;obtain⟨as,ra⟩:=Cn I rs v1 (by unfold fN at e;exact e);exact⟨_,by unfold py;exact .list h1 h2 h3 (by simpa using ra)⟩
 |.bP _,_,_,_,_,_,e=>by unfold fN at e;cases e
 |.cZ _,_,_,_,_,_,e=>by unfold fN at e;cases e
 |.ins _ _,_,_,_,_,_,e=>by unfold fN at e;cases e
 |.exc _,_,_,_,_,_,e=>by unfold fN at e;cases e
theorem Cn(I:Inv X af σ H s):∀{ds} {xs} {f} {us},aB X.K H ds xs f->aU xs us->lX ds=true->∃as,ReadsAll s.heap us (dO ds) as
 |[],_,_,_,r,q,_=>by cases r;cases q;exact⟨_,by unfold dO;exact .nil⟩
 |d::ds,_,_,_,r,q,e=>by
  cases r with
  |cons r1 r2=>
   cases q with
   |cons q1 q2=>
    unfold lX at e;obtain⟨e1,e2⟩:=(abn _ _).mp e;obtain⟨as,h1⟩:=mF I r1 q1 e1;obtain⟨bs,h2⟩:=Cn I r2 q2 e2;exact⟨_,by unfold dO;exact .cons h1 h2⟩
end
mutual
theorem noDict:∀d:D,(py d).hasDict=false
 |.aA=>by unfold py;exists 73
 |.bl _=>by unfold py;exists 73
 |.int _=>by unfold py;exists 73
 |.str _=>by unfold py;exists 73
 |.tup ds=>by unfold py;exists 73;exact noDicts ds
 |.lst ds=>by unfold py;exists 73;exact noDicts ds
 |.gG ds=>by unfold py;exists 73;exact noDicts ds
 |.bP _=>by unfold py;exists 73
 |.cZ _=>by unfold py;exists 73
 |.ins _ _=>by unfold py;exists 73
 |.exc _=>by unfold py;exists 73
theorem noDicts:∀ds:List D,PyData.hasDictAll (dO ds)=false
 |[]=>by unfold dO;simp only[PyData.hasDictAll]
 |d::ds=>by unfold dO;simp only[PyData.hasDictAll,noDict d,noDicts ds,Bool.or_self]
end
def vM(d:D):Bool:=fN d&&(py d).showable&&decide ((py d).depth<=40)&&decide ((py d).shown.length<=sizeLine)
def pV(d:D):Option D:=if vM d=true then(if decide (dep d≠0)=true then some (.str (py d).shown) else none) else none
def Ld(K:PySem.W.Frag):List V->Hp->VK->Prop:=λxs H Q=>∃a d f,xs=[V.ref a]/\Rep K H d (.ref a) f/\vM d=true/\Q (.str (py d).shown) H
theorem acA{k:Nat}(hr:bu k X.A):fX X (.builtin "repr") (Ld X.K):=by
 exists 45;obtain⟨a,d,f,rfl,rd,hs,q⟩:=h;exists 81;unfold vM at hs;obtain⟨hs,h4⟩:=(abn _ _).mp hs;obtain⟨hs,h3⟩:=(abn _ _).mp hs;obtain⟨h1,h2⟩:=(abn _ _).mp hs;obtain⟨as,rr⟩:=mF I rd ru h1;cases ru;have hu:=hr.un;have h3:=abd h3;exact repr_of_reads' rr h2 (PyData.noDict_hsm (noDict d)) hr.gd (by omega) (λb o e=>e) (λh' t tk hk=>⟨.str (py d).shown,H,I.kept hk,⟨t,rfl⟩,q⟩) (abd h4)
theorem agh{K:PySem.W.Frag}:oz K (Ld K) pV:=by
 exists 46;unfold pV at e
 by_cases h1:vM d1=true
 .rw[if_pos h1] at e
  by_cases h2:decide (dep d1≠0)=true
  .rw[if_pos h2] at e;cases e;have hr:∃p,x=.ref p:=by
    cases r<;>first|exact⟨_,rfl⟩|(exact absurd rfl (abd h2))
   obtain⟨p,rfl⟩:=hr;exact⟨p,d1,f1,rfl,r,h1,k H _ [] (aH.refl H) (.str _) acj λa m=>nomatch m⟩
  .rw[if_neg h2] at e;cases e
 .rw[if_neg h1] at e;cases e
theorem qI{k:Nat}{a:Expr}{fa:EF}{p pos:Pos}(hr:bu k X.A)(hm:X.mg "repr"=none)(ha:FP X a fa)(hg:Gl X "repr":=by rfl)(hs:Y2 X a:=by rfl):FP X (.Call (.Name "repr" p) [a] [] pos) (e1 pV fa):=
 fp_1 agh ha λta pa=>lR (acA hr) hg hm boot_repr (cP pa eT hs) (he:=hs)
theorem YF{d:D}(h:vM d=true)(hd:dep d≠0):pV d=some (.str (py d).shown):=by unfold pV;rw[if_pos h,if_pos (aa1 hd)]
def xT(i:Int):Prop:=i.natAbs<10 ^ 12
noncomputable def vp(r:List Int):D:=.tup (r.map D.int)
def bS(rs:List (List Int)):List D:=rs.map vp
theorem xR:∀r:List Int,dO (r.map D.int)=r.map PyData.int
 |[]=>rfl
 |i::r=>by rw[aas,aas];unfold dO;rw[xR r];unfold py;rfl
theorem zY:∀r:List Int,lX (r.map D.int)=true
 |[]=>rfl
 |i::r=>by rw[aas];unfold lX;rw[zY r];rfl
theorem log2_small{n:Nat}(h:n<10 ^ 12):n.log2<1920:=by
 by_cases hz:n=0
 .subst hz;decide
 .rw[Nat.log2_lt hz];exact acU h (adE (show 10 ^ 12<=2 ^ 40 by decide) (Nat.pow_le_pow_right (by decide) (by decide)))
theorem Ra:∀r:List Int,(∀i∈r,xT i)->PyData.showableAll (r.map PyData.int)=true
 |[],_=>rfl
 |i::r,h=>by
  rw[aas];simp only[PyData.showableAll,PyData.showable,abn,ahl];exact⟨log2_small (h i aar),Ra r λj m=>h j (aaa _ m)⟩
theorem RN:∀r:List Int,(∀i∈r,xT i)->PyData.weightAll (r.map PyData.int)<=50*r.length
 |[],_=>by simp[PyData.weightAll]
 |i::r,h=>by
  rw[aas,acf];have h1:i.natAbs<10 ^ 12:=h i aar;have h2:=RN r λj m=>h j (aaa _ m)
  have h3:(PyData.int i).weight<=41:=by
   simp only[PyData.weight]
   split
   .omega
   .rename_i hz;have sy:i.natAbs≠0:=by
     intro q
     apply hz
     rw[Int.natAbs_eq_zero.mp q];rfl
    have:i.natAbs.log2<40:=by
     rw[Nat.log2_lt sy];exact acU h1 (by decide)
    omega
  simp only[PyData.weightAll];omega
theorem PK:∀r:List Int,(∀i∈r,xT i)->PyData.leavesShortAll 13 (r.map PyData.int)=true
 |[],_=>rfl
 |i::r,h=>by
  rw[aas];simp only[PyData.leavesShortAll,PyData.leavesShort,abn,ahl];exact⟨PyData.shown_int_le (h i aar),PK r λj m=>h j (aaa _ m)⟩
theorem depthAll_ints:∀r:List Int,PyData.depthAll (r.map PyData.int)=0
 |[]=>rfl
 |i::r=>by rw[aas];simp only[PyData.depthAll,PyData.depth,depthAll_ints r];rfl
noncomputable def jH(r:List Int):PyData:=.tuple (r.map PyData.int)
theorem Ws(r:List Int):py (vp r)=jH r:=by unfold vp jH;unfold py;rw[xR]
theorem C6:∀rs:List (List Int),dO (bS rs)=rs.map jH
 |[]=>rfl
 |r::rs=>by
  show dO (vp r::bS rs)=jH r::rs.map jH;unfold dO;rw[Ws,C6 rs]
theorem LH:∀rs:List (List Int),lX (bS rs)=true
 |[]=>rfl
 |r::rs=>by
  show lX (vp r::bS rs)=true;unfold lX;rw[LH rs,Bool.and_true];unfold vp fN;exact zY r
def dw(d:D):Bool:=fN d&&(py d).canLay0&&decide ((py d).depth<=40)
def zC(d1 d2:D):Option D:=if(dw d1&&dw d2)=true then some (.bl (PyData.eqv (py d1) (py d2))) else none
def mW(d1 d2:D):Option D:=if(dw d1&&dw d2)=true then some (.bl (!PyData.eqv (py d1) (py d2))) else none
def Ag(K:PySem.W.Frag)(neg:Bool):R2:=λx y H Q=>∃d1 d2 f1 f2,Rep K H d1 x f1/\Rep K H d2 y f2/\dw d1=true/\dw d2=true/\Q (.bl (if neg=true then !PyData.eqv (py d1) (py d2) else PyData.eqv (py d1) (py d2))) H
theorem lay_of(h:dw d=true):fN d=true/\(py d).canLay0=true/\(py d).depth<=40:=by
 unfold dw at h;obtain⟨h,h3⟩:=(abn _ _).mp h;obtain⟨h1,h2⟩:=(abn _ _).mp h;exact⟨h1,h2,abd h3⟩
theorem KY(hu:X.A.units+64<cLine):c_ X (compareOp .NotEq) (Ag X.K true):=by
 exists 44;obtain⟨d1,d2,f1,f2,r1,r2,l1,l2,q⟩:=h;obtain⟨a1,a2,a3⟩:=lay_of l1;obtain⟨b1,b2,b3⟩:=lay_of l2;obtain⟨as,ra⟩:=mF I r1 rx a1;obtain⟨bs,rb⟩:=mF I r2 ry b1;exact SeqAt.compareNe_reads ra rb a2 b2 (by omega) ⟨.bl _,H,I,rfl,q⟩
theorem af1(hu:X.A.units+64<cLine):c_ X (compareOp .Eq) (Ag X.K false):=by
 exists 44;obtain⟨d1,d2,f1,f2,r1,r2,l1,l2,q⟩:=h;obtain⟨a1,a2,a3⟩:=lay_of l1;obtain⟨b1,b2,b3⟩:=lay_of l2;obtain⟨as,ra⟩:=mF I r1 rx a1;obtain⟨bs,rb⟩:=mF I r2 ry b1;exact SeqAt.compareEq_reads ra rb a2 b2 (by omega) ⟨.bl _,H,I,rfl,q⟩
theorem Nb{K:PySem.W.Frag}:gC K (Ag K true) mW:=by
 exists 42;unfold mW at e
 by_cases hc:(dw d1&&dw d2)=true
 .rw[if_pos hc] at e;cases e;obtain⟨c1,c2⟩:=(abn _ _).mp hc;exact⟨d1,d2,f1,f2,r1,r2,c1,c2,k H _ (aH.refl H) (.bl _)⟩
 .rw[if_neg hc] at e;cases e
theorem adw{K:PySem.W.Frag}:gC K (Ag K false) zC:=by
 exists 42;unfold zC at e;obtain⟨hc,e⟩:=ci e;cases e;obtain⟨c1,c2⟩:=(abn _ _).mp hc;exact⟨d1,d2,f1,f2,r1,r2,c1,c2,k H _ (aH.refl H) (.bl _)⟩
theorem Rk(hu:X.A.units+64<cLine)(ha:FP X a fa)(hb:FP X b fb):FT X (.Compare a [.NotEq] [b] pos) (tV (e2 mW fa fb)):=iY (KY hu) Nb ha hb (g_ _)
theorem ae3(hu:X.A.units+64<cLine)(ha:FP X a fa)(hb:FP X b fb):FP X (.Compare a [.NotEq] [b] pos) (e2 mW fa fb):=oB (KY hu) Nb ha hb (g_ _)
theorem HQ(hu:X.A.units+64<cLine)(ha:FP X a fa)(hb:FP X b fb):FP X (.Compare a [.Eq] [b] pos) (e2 zC fa fb):=oB (af1 hu) adw ha hb (g_ _)
theorem Ke{d:D}(h:dw d=true):zC d d=some (.bl true):=by unfold zC;rw[h,afH,if_pos rfl,SeqAt.eqv_refl _ (lay_of h).2.1]
theorem AO:∀r:List Int,PyData.canLayAll0 (r.map PyData.int)=true
 |[]=>rfl
 |i::r=>by rw[aas];simp only[PyData.canLayAll0,PyData.canLay0,AO r,afH]
theorem RC:∀rs:List (List Int),PyData.canLayAll0 (rs.map jH)=true/\PyData.depthAll (rs.map jH)<=1
 |[]=>⟨rfl,by simp[PyData.depthAll]⟩
 |r::rs=>by
  obtain⟨h1,h2⟩:=RC rs;rw[aas];refine⟨by simp only[PyData.canLayAll0,jH,PyData.canLay0,h1,Bool.and_true];exact AO r,?_⟩;simp only[PyData.depthAll,jH,PyData.depth,depthAll_ints r];omega
theorem Q7(rs:List (List Int)):dw (.lst (bS rs))=true:=by
 obtain⟨h1,h2⟩:=RC rs;have e:py (.lst (bS rs))=.list (rs.map jH):=by unfold py;rw[C6]
 unfold dw;rw[e];have a1:fN (.lst (bS rs))=true:=by unfold fN;exact LH rs
 have a2:(PyData.list (rs.map jH)).canLay0=true:=by simp only[PyData.canLay0];exact h1
 have a3:(PyData.list (rs.map jH)).depth<=40:=by simp only[PyData.depth];omega
 rw[a1,a2,aa1 a3];rfl
end L2.Ev
namespace L2.Ev
open PySem PySem.Spec PyProof.Rows
theorem Vq:tY "tuple":=by
 intro K t m;simp only[abb,aew,ag8] at m;rcases m with rfl|rfl|rfl|rfl|rfl|rfl<;>rfl
noncomputable def nM(t:TF)(fa fb:EF):EF:=λρ=>match t ρ with
 |some true=>fa ρ
 |some false=>fb ρ
 |none=>none
theorem Me(hc:FT X c tc)(ha:FP X a fa)(hb:FP X b fb):FP X (.IfExp c a b pos) (nM tc fa fb):=by
 obtain⟨t,p,q⟩:=hc;obtain⟨t1,p1,q1⟩:=ha;obtain⟨t2,p2,q2⟩:=hb;exists 21,VP p p1 p2;unfold nM at e;cases h:tc ρ with
 |none=>rw[h] at e;cases e
 |some y=>
  rw[h] at e;refine q ok h λH1 s1=>?_
  cases y with
  |true=>rw[if_pos rfl];exact q1 (ok.same s1) e λH2 v fp s2 r2 g2=>k H2 v fp (s1.trans s2) r2 (g2.back s1)
  |false=>rw[if_neg abz];exact q2 (ok.same s1) e λH2 v fp s2 r2 g2=>k H2 v fp (s1.trans s2) r2 (g2.back s1)
theorem OZ(h:tc ρ=some true):nM tc fa fb ρ=fa ρ:=by unfold nM;rw[h]
theorem PD(h:tc ρ=some false):nM tc fa fb ρ=fb ρ:=by unfold nM;rw[h]
noncomputable def EW(_ j:Int):Bool:=decide (0<j)&&decide (j<1073741824)
def oDiv:=yh EW λi j=>i / j
theorem ZL(ha:FP X a fa)(hb:FP X b fb):FP X (.BinOp a .FloorDiv b pos) (e2 oDiv fa fb):=zK afG (Fb λi j h=>by
 obtain⟨h1,h2⟩:=(abn _ _).mp h;exact⟨abd h1,abd h2⟩) ha hb
theorem Uc(h:0<n)(h2:n<1073741824):oDiv (.int m) (.int n)=some (.int (m / n)):=by
 show(if EW m n=true then some (D.int (m / n)) else none)=_;rw[if_pos (by unfold EW;rw[aa1 h,aa1 h2];rfl)]
def jP(neg:Bool):D->D->Option D
 |.int i,.lst ds=>(d_ ds).map λns=>.bl (if neg=true then !(ns.any (· == i)) else ns.any (· == i))
 |_,_=>none
theorem adH(i:Int)(ns:List Int):vG (.int i) (ns.map V.int)=ns.any (· == i):=by
 unfold vG;rw[agJ];rfl
theorem aby(ns:List Int):(ns.map V.int).all mC=true:=by
 rw[ahb];exact ada.mpr λ_ _=>rfl
theorem HZ{K:PySem.W.Frag}:gC K (Ck K neg) (jP neg):=by
 exists 42;cases d1 with
 |int i=>
  cases d2 with
  |lst ds=>
   have e:((d_ ds).map λns=>D.bl (if neg=true then !(ns.any (· == i)) else ns.any (· == i)))=some d:=e;exists h,d_ ds,ns,e;cases e;obtain⟨p,xs,f,rfl,hq,rs,_⟩:=r2.dY;cases r1;have ex:=rq rs h;subst ex;refine⟨p,_,rfl,.inl hq,rfl,aby ns,?_⟩;rw[adH];exists 53
  |_=>cases e
 |_=>cases e
theorem M_(ha:FP X a fa)(hb:FP X b fb)(hm:behindInMarks .In b=false:=by rfl):FT X (.Compare a [.In] [b] pos) (tV (e2 (jP false) fa fb)):=iY OG HZ ha hb hm
theorem UP(ha:FP X a fa)(hb:FP X b fb)(hm:behindInMarks .NotIn b=false:=by rfl):FT X (.Compare a [.NotIn] [b] pos) (tV (e2 (jP true) fa fb)):=iY Ff HZ ha hb hm
theorem K9(ha:FP X a fa)(hb:FP X b fb)(hm:behindInMarks .NotIn b=false:=by rfl):FP X (.Compare a [.NotIn] [b] pos) (e2 (jP true) fa fb):=oB Ff HZ ha hb hm
theorem AM{ns:List Int}:jP neg (.int i) (.lst (ns.map D.int))=some (.bl (if neg=true then !(ns.any (· == i)) else ns.any (· == i))):=by
 show((d_ (ns.map D.int)).map _)=_;rw[vj];rfl
def l6(i:Nat)(fv:EF):SF:=λρ=>match fv ρ,ρ[i]? with
 |some (d,_),some (some (.lst ds,.own))=>if(aC d&&aN ds&&decide (ds.length<sizeLine))=true then some (.nx (bT ρ i (.lst (ds++[d])))) else none
 |_,_=>none
theorem Bd(i:Nat)(hv:FP X a fv)(va:VA X i x:=by walk_at "va")(hs:Y2 X a:=by rfl)
  (lQ:attributeBase (.Name x p1) "append" X.env (eval (.Name x p1) X.env)=eval (.Name x p1) X.env:=by rfl)
  (lG:((backTo p3 (starEach [a] X.env)).all (λx=>!x.1)&&(backToKw p3 (keywordEach [] X.env)).all (λx=>x.1.isSome)&&decide ([a].length+([]:List Keyword).length+(if([]:List Keyword).isEmpty then 0 else 1)<30))=true:=by rfl)
  (lU:(p2.endLine==p3.line)=true:=by rfl) (j7:swapsWith (.Call (.Attribute (.Name x p1) "append" p2) [a] [] p3) none pos.line X.env=pure false:=by rfl) :
  eV X (.Expr (.Call (.Attribute (.Name x p1) "append" p2) [a] [] p3) pos) (l6 i fv):=by
 obtain⟨tv,l5,sv⟩:=hv;exists 25,CG (yP PySem.F.plainAttrs_list PySem.F.slot_list_append PySem.F.type_list_append D6 va.pe (cP l5 eT hs) lQ lG lU hs rfl) j7;unfold l6 at e
 split at e
 .rename_i d td ds g1 g2;obtain⟨hc,e⟩:=ci e;cases e;obtain⟨c1,c3⟩:=(abn _ _).mp hc;obtain⟨c1,c2⟩:=(abn _ _).mp c1;obtain⟨xv,fp,cN,r,zz⟩:=ok.sl i _ _ g2;refine⟨xv,cN,?_⟩;obtain⟨l,xs,f,rfl,hq,_,_⟩:=r.dY;refine⟨.inl ⟨rfl,_,hq⟩,?_⟩;refine sv ok g1 λH1 v v8 s1 rv _=>?_
  have r':=r.same s1;have bG:=ok.same s1;generalize hw:(V.ref l)=w at r' cN;cases r' with
  | @lst a' ys _ f' h rs=>
   cases hw;have hn:=rs.aC c2;subst hn;have F3:=rv.aC c1;subst F3;refine⟨_,ys,v,rfl,rfl,h,by rw[<- rs.length];exact abd c3,?_⟩;have im:a_ H1 (upd H1 l (.lst (ys++[v]))):=a_.upd h rfl;refine q z σ _ (Ok.IS bG g2 cN zz aar h rfl (.lst cB ?_)) (.refl _ _);exact aB.append (rs.frame (λa m=>nomatch m) im) (aB.cons (rv.frame (λa m=>nomatch m) im) .nil)
 .cases e
theorem JR(h1:fv ρ=some (.int n,t1))(h2:ρ[i]? = some (some (.lst (ns.map D.int),.own)))(hl:ns.length<sizeLine):
  l6 i fv ρ=some (.nx (bT ρ i (.lst ((ns++[n]).map D.int)))):=by
 unfold l6;rw[h1,h2];dsimp only;have Wd:∀ns:List Int,aN (ns.map D.int)=true:=λns=>by
  induction ns with
  |nil=>rfl
  |cons n r ih=>rw[aas];unfold aN;rw[ih];rfl
 rw[if_pos (by rw[Wd,List.length_map,aa1 hl];rfl),ade];rfl
def cutD(ds:List D)(lo hi:Option Int):List D:=(ds.drop (HT.gJ ds.length 0 lo)).take (HT.gJ ds.length ds.length hi-HT.gJ ds.length 0 lo)
def nO(lo hi:Option Int):D->Option D
 |.lst ds=>if aN ds=true then some (.lst (cutD ds lo hi)) else none
 |.gG ds=>if aN ds=true then some (.lst (cutD ds lo hi)) else none
 |_=>none
theorem aB.AY{K:PySem.W.Frag}:∀{ds} {xs} (n),aB K H ds xs []->aB K H (ds.drop n) (xs.drop n) []
 |ds,xs,0,r=>r
 |[],_,n+1,r=>by cases r;exact .nil
 |d::ds,xs,n+1,r=>by
  generalize hf:([]:List Addr)=fp at r;cases r with
  | @cons _ _ _ _ f1 f2 r1 r2=>
   obtain⟨z1,z2⟩:=agV.mp hf.symm;subst z1 z2;exact aB.AY n r2
theorem aB.BL{K:PySem.W.Frag}:∀{ds} {xs} (n),aB K H ds xs []->aB K H (ds.take n) (xs.take n) []
 |ds,xs,0,r=>.nil
 |[],_,n+1,r=>by cases r;exact .nil
 |d::ds,xs,n+1,r=>by
  generalize hf:([]:List Addr)=fp at r;cases r with
  | @cons _ _ _ _ f1 f2 r1 r2=>
   obtain⟨z1,z2⟩:=agV.mp hf.symm;subst z1 z2;exact aB.cons r1 (aB.BL n r2)
def Ar(X:Cx)(e:Option Expr)(v:Option Int):Prop:=∃t,PO X e t/\∀σ H Q,Q v H->t σ H Q
theorem M9:Ar X none none:=⟨_,Iz,λ_ _ _ q=>q⟩
theorem OH{j p}:Ar X (some (.Constant (.int i) j p)) (some i):=⟨_,JI LA,λ_ _ _ q=>⟨i,rfl,q⟩⟩
theorem Nt{lo hi:Option Expr}(hl:Ar X lo l)(hh:Ar X hi h)(ha:FP X a fa):FP X (.Subscript a (.Slice lo hi none p2) pos) (e1 (nO l h) fa):=by
 exists 69;obtain⟨tl,pl,ql⟩:=hl;obtain⟨th,ph,qh⟩:=hh;exists 21,Eu DE p pl ph;obtain⟨d1,t1,g1,g2,rfl⟩:=sX e;refine q ok g1 λH1 x f1 s1 r1 _=>?_
 refine ql σ H1 _ (qh σ H1 _ ?_);have fin:∀{ds} {xs} {f} {w},aB X.K H1 ds xs f->bZ X.K H1 w xs->(if aN ds=true then some (D.lst (cutD ds l h)) else none)=some d->Qj X.K (.ref w) l h H1 Q:=λ{ds xs f w} rs hq e=>by
  exists 84;cases e;have hn:=rs.aC hi;subst hn;refine⟨w,xs,rfl,hq,λp hp=>?_⟩;have s2:aH H1 (upd H1 p (.lst (kX xs l h))):=λb o e=>by rw[aP (cV e hp)];exact e
  have rr:aB X.K H1 (cutD ds l h) (kX xs l h) []:=by
   unfold cutD kX;rw[rs.length];exact aB.BL _ (aB.AY _ rs)
  refine k _ _ [p] (s1.trans s2) (.lst cB (rr.same s2)) ⟨abV.mpr ⟨(λm=>by cases m),acj⟩,λa m=>?_⟩;cases aa3.mp m;exact s1.free hp
 cases d1 with
 |lst ds=>
  obtain⟨w,xs,f,rfl,hq,rs,_⟩:=r1.dY;exact fin rs hq g2
 |gG ds=>
  obtain⟨w,xs,rfl,hq,rs⟩:=r1.rK;exact fin rs hq g2
 |_=>cases g2
end L2.Ev
namespace L2
open PySem PySem.Spec PyProof.Rows
theorem Inv.ZO{ch:List Addr}{o:HO}(I:Inv X af σ H s)(hf:∀b∈ch,iQ X af H b)(k:∀b o,b∉ch->s.heap.get? b=some o->h'.get? b=some o)
  (hT:s.heap.objs.size<=T) (new:di X.prog X.w (upd H T o) h' T o):Inv X af σ (upd H T o) { s with heap:=h',toks:=t' }:=by
 have nT:=I.aE.fresh hT;have lN:∀b u,H b=some u->b∉ch:=λb u e m=>by rw[(hf b m).1] at e;cases e
 refine I.step (λb m=>⟨(hf b m).2.2.2.1,(hf b m).2.1,(hf b m).2.2.2.2.1,(hf b m).2.2.2.2.2⟩) (λb o _ _ m e _=>k b o m e) (λb o _ _ m e _=>⟨o.slots,k b o m e⟩)
  (λb o _ e n=>by rw[aP (acI (acU (abM e) hT))];exact n) (λb o m e=>⟨o,k b o m e⟩) (λb xs e=>by rw[aP (cV e nT)];exact e) (λb o u e=>by rw[aP (cV e nT)];exact e)
  (λb ps e=>⟨#[],by rw[aP (cV e nT),e];simp⟩) (λm hm=>?_) (λb u e=>?_) I.bare
 .obtain⟨o,es,ep,ho,r⟩:=hm;exact⟨o,es,ep,k _ o (λm=>(hf _ m).2.1 rfl) ho,r⟩
 .by_cases hb:b=T
  .subst hb;rw[cB] at e;cases e;exact new
  .rw[aP hb] at e;refine(I.aE b u e).gx (λc v hc q=>k c v ?_ q) (λc q=>by rw[aP (cV q nT)];exact q) λc xs q=>by rw[aP (cV q nT)];exact q
   rcases hc with z|z
   .rw[z];exact lN b u e
   .exact lN c _ z
theorem Inv.Lc{ch:List Addr}(I:Inv X af σ H s)(hf:∀b∈ch,iQ X af H b)(k:∀b o,b∉ch->s.heap.get? b=some o->h'.get? b=some o):Inv X af σ H { s with heap:=h',toks:=t' }:=by
 have lN:∀b u,H b=some u->b∉ch:=λb u e m=>by rw[(hf b m).1] at e;cases e
 refine I.step (λb m=>⟨(hf b m).2.2.2.1,(hf b m).2.1,(hf b m).2.2.2.2.1,(hf b m).2.2.2.2.2⟩) (λb o _ _ m e _=>k b o m e) (λb o _ _ m e _=>⟨o.slots,k b o m e⟩)
  (λb o _ e n=>n) (λb o m e=>⟨o,k b o m e⟩) (λb xs e=>e) (λb o u e=>e) (λb ps e=>⟨#[],by rw[e];simp⟩) (λm hm=>?_) (λb u e=>?_) I.bare
 .obtain⟨o,es,ep,ho,r⟩:=hm;exact⟨o,es,ep,k _ o (λm=>(hf _ m).2.1 rfl) ho,r⟩
 .refine(I.aE b u e).gx (λc v hc q=>k c v ?_ q) (λc q=>q) λc xs q=>q
  rcases hc with z|z
  .rw[z];exact lN b u e
  .exact lN c _ z
def Di(K:PySem.W.Frag)(l1 l2:Addr):It:=
  ⟨λi H=>∃xs ys x y,bZ K H l1 xs/\bZ K H l2 ys/\xs[i]? = some x/\ys[i]? = some y,
   λi H v H'=>∃T a b,H T=none/\v=.ref T/\H'=upd H T (.tup [a,b])/\(∀xs,bZ K H l1 xs->xs[i]? = some a)/\∀ys,bZ K H l2 ys->ys[i]? = some b,
   λi H=>∃xs ys,bZ K H l1 xs/\bZ K H l2 ys/\(xs.length<=i\/ys.length<=i),false⟩
def aeo(z TI TO i1 i2 l1 l2:Addr)(i:Nat)(h:Heap):Prop:=IsZip h z TI TO .none/\IsPair h TI (.ref i1) (.ref i2)/\(∃a b,IsPair h TO a b)/\h.IsListIter i1 l1 i/\h.IsListIter i2 l2 i
theorem adg{K:PySem.W.Frag}{x1}{z TI TO i1 i2 l1 l2:Addr}(D:ZipApart z TI TO i1 i2 l1 l2):
  Turn P w K (.Tuple elts x1 pos) (Di K l1 l2) [z,TI,TO,i1,i2] z (aeo z TI TO i1 i2 l1 l2) where
 mem:=by simp
 obj:=λi h st b hb=>by
  obtain⟨s1,s2,⟨a,b',s3⟩,⟨o4,e4,c4,d4⟩,⟨o5,e5,c5,d5⟩⟩:=st;simp only[abb,aew,ag8] at hb;rcases hb with rfl|rfl|rfl|rfl|rfl
  .exact⟨_,s1,λv q=>by cases q⟩
  .exact⟨_,s2,λv q=>by cases q⟩
  .exact⟨_,s3,λv q=>by cases q⟩
  .exact⟨o4,e4,λv q=>by rw[d4] at q;cases q⟩
  .exact⟨o5,e5,λv q=>by rw[d5] at q;cases q⟩
 keep:=λi h h' st k=>by
  obtain⟨s1,s2,⟨a,b',s3⟩,s4,s5⟩:=st;exact⟨k _ (by simp) _ s1,k _ (by simp) _ s2,⟨a,b',k _ (by simp) _ s3⟩,s4.at λo e=>k _ (by simp) o e,s5.at λo e=>k _ (by simp) o e⟩
 item:=by
  exists 41;subst hP hw hK;obtain⟨s1,s2,⟨a,b',s3⟩,s4,s5⟩:=st;obtain⟨xs,ys,x,y,q1,q2,e1,e2⟩:=hg;obtain⟨us,v1,p1,z1⟩:=I.list q1;obtain⟨ws,v2,p2,z2⟩:=I.list q2;obtain⟨u,hu,ru⟩:=v1.get e1;obtain⟨t,ht,rt⟩:=v2.get e2;refine wpAny_pyNext_zip_item D s1 s2 s3 s4 s5 p1.isList p2.isList (by simpa using hu) (by simpa using ht) λh' a1 a2 a3 a4 a5 a6 a7=>⟨_,rfl,?_⟩
  refine wpAny_letOwnedTupleGo_zip a1 λzu b1 b2=>?_
  have lz:=abM s1;have nz:=agw lz;have T2:=b2.extBut _ _ nz a5;have nT:=I.aE.fresh (abT _);have I1:Inv X af σ (upd H s.heap.objs.size (.tup [x,y])) { s with heap:=zu }:=I.ZO (ch:=[z,TO,i1,i2]) (λb m=>hf b (by
    simp only[abb,aew,ag8] at m ⊢;rcases m with rfl|rfl|rfl|rfl<;>simp)) (λb o m e=>by
    simp only[abb,aew,ag8,not_or] at m;exact b2.extBut _ _ m.1 (a7 b o m.1 m.2.1 m.2.2.1 m.2.2.2 e)) (abT _) (show di X.prog X.w _ zu _ (.tup [x,y]) from⟨show 2<=sizeLine by unfold sizeLine;lia,[u,t],.cons ru (.cons rt .nil),⟨_,T2,rfl,rfl,_,rfl⟩⟩)
  refine⟨.ref s.heap.objs.size,_,I1,rfl,⟨_,x,y,nT,rfl,rfl,λZo h=>by rw[I.IZ h q1];exact e1,λys' h=>by rw[I.IZ h q2];exact e2⟩,?_,λb m=>?_⟩
  .have up:∀c o,c≠z->h'.get? c=some o->zu.get? c=some o:=λc o n e=>b2.extBut _ _ n e
   exact⟨b1,up _ _ D.TIz (a7 TI _ D.TIz D.TITO D.TIi1 D.TIi2 s2),⟨u,t,up _ _ D.TOz a2⟩,a3.at λo e=>up _ o D.i1z e,a4.at λo e=>up _ o D.i2z e⟩
  .rw[aP]
   .exact(hf b m).1
   .rintro rfl
    obtain⟨o4,e4,_⟩:=id s4;obtain⟨o5,e5,_⟩:=id s5;simp only[abb,aew,ag8] at m;rcases m with m|m|m|m|m
    .exact nz m
    .exact absurd (abM s2) (by rw[<- m];exact aeM _)
    .exact absurd (abM s3) (by rw[<- m];exact aeM _)
    .exact absurd (abM e4) (by rw[<- m];exact aeM _)
    .exact absurd (abM e5) (by rw[<- m];exact aeM _)
 done:=by
  exists 41;subst hP hw hK;obtain⟨s1,s2,⟨a,b',s3⟩,s4,s5⟩:=st;obtain⟨xs,ys,q1,q2,e⟩:=hg;obtain⟨us,v1,p1,z1⟩:=I.list q1;obtain⟨ws,v2,p2,z2⟩:=I.list q2;have l1:=v1.length;have l2:=v2.length;refine wpAny_pyNext_zip_end (I.ok.hd (hc.resolve_right λz=>abz z)) D s1 s2 s3 s4 s5 p1.isList p2.isList (e.imp (λe=>by simp;lia) λe=>by simp;lia) λh' k=>⟨rfl,I.Lc (ch:=[z,TO,i1,i2]) (λb m=>hf b (by
    simp only[abb,aew,ag8] at m ⊢;rcases m with rfl|rfl|rfl|rfl<;>simp)) λb o m e=>?_⟩
  simp only[abb,aew,ag8,not_or] at m;exact k b o m.1 m.2.1 m.2.2.1 m.2.2.2 e
 self:=λ_ _ _ _ _ st h=>wpAny_pyIter_zip st.1 h
def adm(K:PySem.W.Frag)(ta:TA):TI:=λσ H R=>ta σ H λvs H1=>∃l1 l2 xs ys,vs=[.ref l1,.ref l2]/\bZ K H1 l1 xs/\bZ K H1 l2 ys/\R (Di K l1 l2) H1
theorem YT{x1}(hg:Gl X "zip")(hm:X.mg "zip"=none)(ha:PA X [a,b] ta)(hs:starEach [a,b] X.env=[(false,eval a X.env),(false,eval b X.env)]:=by rfl)(cJ:Y2 X b:=by rfl):
  PI X (.Tuple elts x1 tp) (.Call (.Name "zip" p) [a,b] [] pos) (adm X.K ta):=by
 intro af s σ H R I h;refine afv (qj I hg hm boot_zip (agy (aM (ha pos af s σ H _ I h) λus s1 ⟨vs,H1,I1,r1,q1⟩=>?_) (by rw[hs,cJ]) (by rw[cJ];rfl)));obtain⟨l1,l2,xs,ys,rfl,h1,h2,q⟩:=q1;obtain⟨u,v,rfl,ru,rv⟩:=vals2 r1;cases ru;cases rv;obtain⟨us,v1,p1,z1⟩:=I1.list h1;obtain⟨ws,v2,p2,z2⟩:=I1.list h2;have b1:=let⟨o,n,e,_⟩:=p1;abM e
 have b2:=let⟨o,n,e,_⟩:=p2;abM e
 refine call_zip_2 p1.isList p2.isList λh' g1 g2 g3 g4 g5 g6 k=>?_
 refine wpAny_pyIter_zip g1 ?_;refine⟨_,_,_,_,H1,rfl,I1.kept k,adg (zipApart_new b1 b2),⟨g1,g2,⟨_,_,g3⟩,g4,g5⟩,λc hc=>?_,q⟩;have up:∀j,iQ X af H1 (s1.heap.objs.size+j):=λj=>I1.sW (Nat.le_add_right _ _) (I1.aE.fresh (Nat.le_add_right _ _))
 simp only[abb,aew,ag8] at hc;rcases hc with rfl|rfl|rfl|rfl|rfl
 .exact up 4
 .exact up 2
 .exact up 3
 .exact up 0
 .exact up 1
end L2
namespace L2.Ev
open PySem PySem.Spec PyProof.Rows
def pR(fa fb:EF):IF:=λρ=>match fa ρ,fb ρ with
 |some (.lst ds,t1),some (.lst es,t2)=>if(aN ds&&aN es)=true then some ((ds.zip es).map λp=>.tup [p.1,p.2],jM [(.lst ds,t1),(.lst es,t2)]) else none
 |_,_=>none
theorem aB.KA{K:PySem.W.Frag}{i:Nat}(r:aB K H ds vs [])(e:ds[i]? = some d):∃v,vs[i]? = some v/\Rep K H d v []:=by
 obtain⟨v,f,e1,r1,s⟩:=r.get e;have:f=[]:=List.eq_nil_iff_forall_not_mem.mpr λa m=>by have:=s a m;cases this
 subst this;exact⟨v,e1,r1⟩
theorem Vv{K:PySem.W.Frag}{f1 f2:List Addr}(c1:aN ds=true)(c2:aN es=true):
  tG K (Di K l1 l2) ((ds.zip es).map λp=>.tup [p.1,p.2]) [⟨.lst ds,.ref l1,f1⟩,⟨.lst es,.ref l2,f2⟩]:=by
 intro H i hh;obtain⟨p1,xs,g1,e1,q1,r1,_⟩:=(hh _ aar).dY;obtain⟨p2,ys,g2,e2,q2,r2,_⟩:=(hh _ (aaa _ aar)).dY;cases e1;cases e2;have n1:=r1.aC c1;have n2:=r2.aC c2;subst n1 n2;refine⟨λd hd=>?_,λhl=>?_⟩
 .rw[aco] at hd;cases hz:(ds.zip es)[i]? with
  |none=>rw[hz] at hd;cases hd
  |some pr=>
   rw[hz] at hd;cases hd;obtain⟨k1,k2⟩:=List.getElem?_zip_eq_some.mp hz;obtain⟨x,hx,rx⟩:=r1.KA k1;obtain⟨y,hy,ry⟩:=r2.KA k2;refine⟨⟨xs,ys,x,y,q1,q2,hx,hy⟩,λv H1 hv=>?_⟩;obtain⟨T,a,b,hT,rfl,rfl,ha,hb⟩:=hv;have ea:=ha xs q1;have eb:=hb ys q2;rw[hx] at ea;rw[hy] at eb;cases ea;cases eb;have s2:aH H (upd H T (.tup [x,y])):=λb o e=>by rw[aP (cV e hT)];exact e
   exact⟨s2,[],.tup (ck.of cB) (aB.cons (rx.same s2) (aB.cons (ry.same s2) .nil)),λa m=>nomatch m⟩
 .rw[List.length_map,List.length_zip,r1.length,r2.length] at hl;exact⟨xs,ys,q1,q2,by lia⟩
theorem KC{x1}(hm:X.mg "zip"=none)(ha:FP X a fa)(hb:FP X b fb)(hg:Gl X "zip":=by rfl)(hs:starEach [a,b] X.env=[(false,eval a X.env),(false,eval b X.env)]:=by rfl)(cJ:Y2 X b:=by rfl):
  FI X (.Tuple elts x1 tp) (.Call (.Name "zip" p) [a,b] [] pos) (pR fa fb):=by
 obtain⟨t,pa,hlen,q⟩:=ao ha (ao hb aF cJ) (by rw[hs,cJ]);exists 24,YT hg hm pa hs cJ;unfold pR at e
 split at e
 .rename_i d1 t1 d2 t2 h1 h2;obtain⟨hc,e⟩:=ci e;cases e;obtain⟨c1,c2⟩:=(abn _ _).mp hc;refine q ok (by unfold ay aJ;rw[h1,h2]) λH1 vs fp s1 r g=>?_
  cases r with
  | @cons _ v1 _ _ f1 _ r1 r=>
   cases r with
   | @cons _ v2 _ _ f2 _ r2 r=>
    cases r;obtain⟨l1,xs,g1,rfl,q1,_,_⟩:=r1.dY;obtain⟨l2,ys,g2,rfl,q2,_,_⟩:=r2.dY;refine⟨l1,l2,xs,ys,rfl,q1,q2,k H1 _ [⟨.lst d1,.ref l1,f1⟩,⟨.lst d2,.ref l2,f2⟩] s1 (λh m=>?_) (Vv c1 c2)⟩;have go:=g.over ok;rcases abb.mp m with rfl|m
    .exact⟨r1,λa ma=>go a (abq _ ma)⟩
    .cases aa3.mp m;exact⟨r2,λa ma=>go a (aaV _ (abq _ ma))⟩
 .cases e
end L2.Ev
namespace L2
open PySem PySem.Spec PyProof.Rows
theorem R6:∀{bs:List Bool} {us},aU (bs.map V.bl) us->us=bs.map Value.bool
 |[],_,r=>by rw[ag9] at r;cases r;rfl
 |b::bs,_,r=>by
  rw[aas] at r;cases r with
  |cons r1 r2=>cases r1;rw[R6 r2];rfl
theorem range_all(bs:List Bool):(List.range bs.length).all (λj=>bs.getD j true)=bs.all id:=by
 induction bs with
 |nil=>rfl
 |cons b r ih=>
  rw[acf,List.range_succ_eq_map,ahd,ahb,ahd,<- ih];rfl
theorem acW(hc:X.calm=true):fX X (.builtin "all") (λxs H Q=>∃(p:Addr) (bs:List Bool),xs=[V.ref p]/\bZ X.K H p (bs.map V.bl)/\Q (.bl (bs.all id)) H):=by
 exists 45;obtain⟨p,bs,rfl,hq,q⟩:=h;exists 81;cases ru;obtain⟨au,v1,pl,hz⟩:=I.list hq;have ei:=R6 v1;subst ei;have lp:=let⟨o,n,e,_⟩:=pl;abM e
 have hh:X.A.in1.handled=none:=I.ok.hd hc;refine call_all_walk (wpAny_pyIter_list pl.isList ?_);refine⟨s.heap.objs.size,_,_,_,_,_,λj=>bs.getD j true,rfl,Walks.list hh s.heap.objs.size p (acI lp) (bs.map Value.bool).toArray,⟨⟨_,ab3 _ rfl,rfl,rfl⟩,pl.isList.at λo e=>aaT _ e⟩,?_,λh' tk hk=>?_⟩
 .intro i v s' Q' E' hv hQ;rw[List.getElem?_toArray,aco] at hv;exists e,bs[i]?,b,hv;cases hv;dsimp only at hQ;rw[adu,e] at hQ;exact afg hQ
 .have f:=I.sW (abT s.heap.objs.size) (I.aE.fresh (abT _));have I1:Inv X af σ H { s with heap:=s.heap.push { cls:=.type "list_iterator",data:=.fields #[.ref p,.int 0 0] } }:=I.kept λb o e=>aaT _ e
  rw[ab2,List.length_map,range_all];exact⟨.bl _,H,I1.Lc (λb m=>by rw[aa3.mp m];exact f) λb o m e=>hk b o m e,rfl,q⟩
end L2
namespace L2.Ev
open PySem PySem.Spec PyProof.Rows
noncomputable def m7:List D->Option (List Bool)
 |[]=>some []
 |.bl b::r=>(m7 r).map (b::·)
 |_=>none
theorem Od{K:PySem.W.Frag}:∀{ds} {xs} {fp} {bs},aB K H ds xs fp->m7 ds=some bs->xs=bs.map V.bl
 |[],_,_,bs,r,e=>by cases r;cases e;rfl
 |d::ds,_,_,bs,r,e=>by
  cases r with
  |cons h t=>
   cases d<;>try (cases e;done)
   cases h;unfold m7 at e;exists q,m7 ds,r,e;cases e;rw[Od t q];rfl
def yd:D->Option D
 |.lst ds=>(m7 ds).map λbs=>.bl (bs.all id)
 |_=>none
theorem Ve{K:PySem.W.Frag}:oz K (λxs H Q=>∃(p:Addr) (bs:List Bool),xs=[V.ref p]/\bZ K H p (bs.map V.bl)/\Q (.bl (bs.all id)) H) yd:=by
 exists 46;cases d1 with
 |lst ds=>
  obtain⟨p,xs,f,rfl,hq,rs,_⟩:=r.dY;have e:(m7 ds).map (λbs=>D.bl (bs.all id))=some d:=e;exists h,m7 ds,bs,e;cases e;have ex:=Od rs h;subst ex;exact⟨p,bs,rfl,hq,k H _ [] (aH.refl H) (.bl _) acj λa m=>nomatch m⟩
 |_=>cases e
theorem Kc(hc:X.calm=true)(hm:X.mg "all"=none)(ha:FP X a fa)(hg:Gl X "all":=by rfl)(hs:Y2 X a:=by rfl):FP X (.Call (.Name "all" p) [a] [] pos) (e1 yd fa):=
 fp_1 Ve ha λta pa=>lR (acW hc) hg hm boot_all (cP pa eT hs) (he:=hs)
abbrev XF:=aO->Option (D×aO)
theorem afz(ha:FP X a fa)(hb:FP X b fb):FP X (.Compare a [.Lt] [b] pos) (e2 oLt fa fb):=oB KH oA ha hb (g_ _)
theorem acd(ha:FP X a fa)(hb:FP X b fb):FP X (.Compare a [.LtE] [b] pos) (e2 oLe fa fb):=oB zU oA ha hb (g_ _)
theorem aeT(ha:FP X a fa)(hb:FP X b fb):FP X (.Compare a [.Gt] [b] pos) (e2 pO fa fb):=oB Rh oA ha hb (g_ _)
theorem aaz(ha:FP X a fa)(hb:FP X b fb):FP X (.Compare a [.Is] [b] pos) (e2 gR fa fb):=oB Er JV ha hb (g_ _)
end L2.Ev
namespace L2.Ev
open PySem
theorem eO:∀ns:List Int,aN (ns.map D.int)=true
 |[]=>rfl
 |n::r=>by rw[aas];unfold aN;rw[eO r];rfl
theorem pP{as bs:List Int}(h:as.length+bs.length<=PySem.sizeLine):fW (.lst (as.map D.int)) (.lst (bs.map D.int))=some (.lst ((as++bs).map D.int)):=by
 show(if(aN (as.map D.int)&&aN (bs.map D.int)&&decide ((as.map D.int).length+(bs.map D.int).length<=PySem.sizeLine))=true then some (D.lst (as.map D.int++bs.map D.int)) else none)=_;rw[eO,eO,List.length_map,List.length_map,aa1 h,ade];rfl
theorem acX(h:ns.length<64):mS (.lst (ns.map D.int))=some (.lst ((dQ ns).map D.int)):=by
 show(match d_ (ns.map D.int) with|some ns=>if ns.length<64 then some (D.lst ((dQ ns).map D.int)) else none|none=>none)=_;rw[vj];dsimp only;rw[if_pos h]
theorem uY{ns:List Int}:qz (.lst (ns.map D.int))=some (.lst (ns.map D.int)):=by show(if aN (ns.map D.int)=true then some (D.lst (ns.map D.int)) else none)=_;rw[if_pos (eO ns)]
theorem Qu{ns:List Int}:qz (.tup (ns.map D.int))=some (.lst (ns.map D.int)):=by show(if aN (ns.map D.int)=true then some (D.lst (ns.map D.int)) else none)=_;rw[if_pos (eO ns)]
theorem ug{ns:List Int}:yy (.lst (ns.map D.int))=some (.tup (ns.map D.int)):=by show(if aN (ns.map D.int)=true then some (D.tup (ns.map D.int)) else none)=_;rw[if_pos (eO ns)]
open PySem PySem.Spec PyProof.Rows
theorem aB.look{K:PySem.W.Frag}:∀{es:List (Str×D)}{fs:List (Str×V)} {fp} {f} {d},es.map (·.1)=fs.map (·.1)->aB K H (es.map (·.2)) (fs.map (·.2)) fp->es.lookup f=some d->∃v g,fs.lookup f=some v/\Rep K H d v g/\∀a∈g,a∈fp
 |[],[],_,_,_,_,_,e=>by cases e
 |[],_::_,_,_,_,k,_,_=>by simp at k
 |_::_,[],_,_,_,k,_,_=>by simp at k
 |(x,d0)::es,(y,v0)::fs,fp,f,d,k,r,e=>by
  simp only[aas,afB] at k;obtain⟨rfl,k⟩:=k;cases r with
  |cons r1 r2=>
   by_cases hx:(f==x)=true
   .simp only[List.lookup,hx] at e ⊢;cases e;exact⟨v0,_,rfl,r1,λa m=>abq _ m⟩
   .have hx:(f==x)=false:=by simpa using hx
    simp only[List.lookup,hx] at e ⊢;obtain⟨v,g,h1,h2,h3⟩:=aB.look k r2 e;exact⟨v,g,h1,h2,λa m=>aaV _ (h3 a m)⟩
theorem rP:∀{es:List (Str×D)}{fs:List (Str×V)} {f},es.map (·.1)=fs.map (·.1)->es.lookup f=none->fs.lookup f=none
 |[],[],_,_,_=>rfl
 |[],_::_,_,k,_=>by simp at k
 |_::_,[],_,k,_=>by simp at k
 |(x,d0)::es,(y,v0)::fs,f,k,e=>by
  simp only[aas,afB] at k;obtain⟨rfl,k⟩:=k
  by_cases hx:(f==x)=true
  .simp only[List.lookup,hx] at e;cases e
  .have hx:(f==x)=false:=by simpa using hx
   simp only[List.lookup,hx] at e ⊢;exact rP k e
structure ClsAt(K:PySem.W.Frag)(cn:Str)(C:Addr):Prop where
 ns:PySem.W.nsIn K mainGlobals cn=some (some (.ref C))
 cl:kC K C
theorem Rep.lM{K:PySem.W.Frag}(r:Rep K H (.ins cn es) v fp)(hn:PySem.W.nsIn K mainGlobals cn=some (some (.ref C))):
  ∃a dx fs g,v=.ref a/\fp=a::dx::g/\H a=some (.ins C dx fs)/\H dx=some (.own a)/\es.map (·.1)=fs.map (·.1)/\aB K H (es.map (·.2)) (fs.map (·.2)) g:=by
 cases r with
 | @ins _ a C' dx fs _ g h0 h1 h2 h3 h4=>
  rw[hn] at h0;cases h0;exact⟨a,dx,fs,g,rfl,rfl,h1,h2,h3,h4⟩
def bV(cn f:Str)(fa:EF):EF:=λρ=>match fa ρ with
 |some (.ins c es,t)=>if c=cn then(es.lookup f).map λd=>(d,k_ t) else none
 |_=>none
theorem cI.sub(hz:∀a j,z a=some j->∃o,H a=some o)(h:cI z H t f)(s:∀a∈g,a∈f):cI z H (k_ t) g:=by
 cases t with
 |sh o=>exact λa m j q=>h a (s a m) j q
 |own=>exact λa m j q=>by obtain⟨o,w⟩:=hz a j q;rw[h.2 a (s a m)] at w;cases w
 |lk=>exact λa m j q=>by obtain⟨o,w⟩:=hz a j q;rw[h.2 a (s a m)] at w;cases w
theorem bN{cn f:Str}{C:Addr}(hC:ClsAt X.K cn C)(na:jr X.K C f)(ha:FP X a fa)(hb:attributeBase a f X.env (eval a X.env)=eval a X.env:=by rfl):FP X (.Attribute a f pos) (bV cn f fa):=by
 exists 69;exists 21,vV p hb;unfold bV at e;exists h,fa ρ,w,e,0;obtain⟨d0,t0⟩:=w;rw[h] at e;cases d0<;>try (cases e;done)
 rename_i c es;exists 70
 by_cases hc:c=cn
 .subst hc;rw[if_pos rfl] at e;exists hl,es.lookup f,d1,e;cases e;refine q ok h λH1 v fp s1 r1 g1=>?_
  obtain⟨b,dx,fs,g,rfl,rfl,h1,h2,h3,h4⟩:=r1.lM hC.ns;obtain⟨u,gf,h5,h6,h7⟩:=aB.look h3 h4 hl;exact⟨b,C,dx,fs,u,rfl,h1,hC.cl,na,h5,k H1 u gf s1 h6 (cI.sub (λa j e=>(ok.zd a j e).1) g1 λa m=>aaa _ (aaa _ (h7 a m)))⟩
 .rw[if_neg hc] at e;cases e
noncomputable def cD(cn m:Str)(F:List D->Option D)(fo:EF)(g:AF):EF:=λρ=>match fo ρ with
 |some (.ins c es,_)=>if c=cn/\es.lookup m=none then(g ρ).bind λps=>(F (.ins c es::ps.map (·.1))).map λd=>(d,.own) else none
 |_=>none
section
variable{X:Cx}
theorem Rn(hC:ClsAt X.K cn C)(q:∀{H0} {S} {z} {aq} {ρ} {σ} {H} {Q} {d} {tg},Ok X.K H0 S z aq ρ σ H->fo ρ=some (d,tg)->(∀H' v fp,aH H H'->Rep X.K H' d v fp->cI z H tg fp->Q v H')->t σ H Q)
  (qa:∀{H0} {S} {z} {aq} {ρ} {σ} {H} {Q} {ps},Ok X.K H0 S z aq ρ σ H->g ρ=some ps->(∀H' vs fp,aH H H'->aB X.K H' (ps.map (·.1)) vs fp->cI z H (jM ps) fp->Q vs H')->ta σ H Q)
  (ok:Ok X.K H0 S z aq ρ σ H) (e0:cD cn m F fo g ρ=some (d,tg)) (kk:∀H' v fp,aH H H'->Rep X.K H' d v fp->cI z H tg fp->Q v H') :
  CO C m (bz X.K F) [] E0 t ta σ H Q:=by
 unfold cD at e0;cases h:fo ρ with
 |none=>rw[h] at e0;cases e0
 |some w=>
  obtain⟨d0,t0⟩:=w;rw[h] at e0;cases d0<;>try (cases e0;done)
  rename_i c sG;dsimp only at e0
  by_cases hc:c=cn/\sG.lookup m=none
  .rw[if_pos hc] at e0;obtain⟨rfl,hm⟩:=hc;cases h2:g ρ with
   |none=>rw[h2] at e0;cases e0
   |some qs=>
    rw[h2,acV] at e0;cases h3:F (.ins c sG::qs.map (·.1)) with
    |none=>rw[h3] at e0;cases e0
    |some d1=>
     rw[h3] at e0;cases e0;exists 59
     obtain⟨b,dx,fs,gf,rfl,rfl,h4,h5,h6,h7⟩:=r1.lM hC.ns;refine⟨b,dx,fs,rfl,h4,rP h6 hm,?_⟩;refine qa (ok.same s1) h2 λH2 vs l9 s2 r2 _=>?_
     rw[acE];exact⟨_,_,d,.cons (r1.same s2) r2,h3,λH3 u gP s3 r3 nd fr=>kk H3 u gP ((s1.trans s2).trans s3) r3 ⟨nd,λa m=>s1.free (s2.free (fr a m))⟩⟩
  .rw[if_neg hc] at e0;cases e0
theorem gj(hC:ClsAt X.K cn C)(hm:kG X.K C m f)(G:bX X.prog X.w X.K X.mg X.base c9 k f fd ps (bz X.K F))(hr:bu k X.A)(hb:Binds X.K fd ps [])(ho:FP X o fo)(ha:FA X (e::es) g)
  (cX:SE X e es pos:=by exact⟨rfl,rfl⟩)
  (ht:uv X o m apos (e::es) pos pl:=by exact rfl):FP X (.Call (.Attribute o m apos) (e::es) [] pos) (cD cn m F fo g):=by
 obtain⟨t,p,q⟩:=ho;obtain⟨ta,pa,_,qa⟩:=ha;exact⟨_,BE p hC.cl hm G hr hb .nil nq pa cX.1 cX.2 ht,@λH0 S z aq ρ σ H Q d tg ok e0 kk=>Rn hC q qa ok e0 kk⟩
theorem dX(hC:ClsAt X.K cn C)(hm:kG X.K C m f)(G:bX X.prog X.w X.K X.mg X.base c9 k f fd ps (bz X.K F))(hr:bu k X.A)(hb:Binds X.K fd ps [])(ho:FP X o fo)
  (ht:uv X o m apos [] pos pl:=by exact rfl):FP X (.Call (.Attribute o m apos) [] [] pos) (cD cn m F fo aJ):=by
 obtain⟨t,p,q⟩:=ho;obtain⟨ta,pa,_,qa⟩:=aF (X:=X);refine⟨_,Pw p hC.cl hm G hr hb .nil nq ht,@λH0 S z aq ρ σ H Q d tg ok e0 kk=>Rn hC q (@λ_ _ _ _ _ _ H _ _ _ e q=>by cases e;exact q H _ _ (aH.refl H) .nil .nil) ok e0 kk⟩
end
noncomputable abbrev MF:=D->List D->Option (D×D)
def dJ(K:PySem.W.Frag)(G:MF):Sp:=λvs H Q _=>∃a ws d0 bH ds fT r d1,vs=V.ref a::ws/\Rep K H d0 (.ref a) bH/\bH.Nodup/\aB K H ds ws fT/\(∀b∈fT,b∉bH)/\G d0 ds=some (r,d1)/\
 ∀H' v bR,a_ H H'->(∀b o,b∉bH->H b=some o->H' b=some o)->Rep K H' d1 (.ref a) bR->bR.Nodup->(∀b∈bR,b∈bH\/H b=none)->Rep K H' r v []->Q v H'
def apart(i:Nat)(ps:List (D×Tag)):Bool:=match jM ps with
 |.sh o=>!o.contains i
 |_=>true
theorem F2{K:PySem.W.Frag}(ok:Ok K H0 S z aq ρ σ H)(h:apart i ps=true)(g:cI z H (jM ps) fp)(zz:vW z i .own bH):∀b∈fp,b∉bH:=by
 intro b m n;unfold apart at h;have zb:=zz.2 b n;cases ht:jM ps with
 |sh o=>
  rw[ht] at h g;have:=g b m i zb;simp at h;exact h this
 |own=>
  rw[ht] at g;obtain⟨⟨o,w⟩,_⟩:=ok.zd b i zb;rw[g.2 b m] at w;cases w
 |lk=>
  rw[ht] at g;obtain⟨⟨o,w⟩,_⟩:=ok.zd b i zb;rw[g.2 b m] at w;cases w
def xO(i:Nat)(cn m:Str)(G:MF)(g:AF):XF:=λρ=>match ρ[i]?,g ρ with
 |some (some (.ins c es,.own)),some ps=>if c=cn/\es.lookup m=none/\apart i ps=true then(G (.ins c es) (ps.map (·.1))).map λw=>(w.1,bT ρ i w.2) else none
 |_,_=>none
theorem QC(e:xO i cn m G g ρ=some (r,ρ')):∃es ps d1,ρ[i]? = some (some (.ins cn es,.own))/\g ρ=some ps/\es.lookup m=none/\apart i ps=true/\G (.ins cn es) (ps.map (·.1))=some (r,d1)/\ρ'=bT ρ i d1:=by
 unfold xO at e
 split at e
 .rename_i c es ps h1 h2
  by_cases hc:c=cn/\es.lookup m=none/\apart i ps=true
  .rw[if_pos hc] at e;obtain⟨rfl,hm,ha⟩:=hc;exists h3,G (.ins c es) (ps.map (·.1)),w,e;cases e;exact⟨es,ps,w.2,h1,h2,hm,ha,h3,rfl⟩
  .rw[if_neg hc] at e;cases e
 .cases e
def FZ(X:Cx)(e:Expr)(f:XF):Prop:=∃t,PE X e t/\∀{H0} {S} {z} {aq} {ρ} {σ} {H} {Q} {d} {ρ'},
 Ok X.K H0 S z aq ρ σ H->f ρ=some (d,ρ')->(∀z' H' v,Ok X.K H0 S z' aq ρ' σ H'->Rep X.K H' d v []->Q v H')->t σ H Q
section
variable{X:Cx}
theorem Wy(hC:ClsAt X.K cn C)(hN:X.N[i]? = some x)
  (qa:∀{H0:Hp} {S} {z} {aq} {ρ} {σ} {H} {Q} {ps},Ok X.K H0 S z aq ρ σ H->g ρ=some ps->(∀H' vs fp,aH H H'->aB X.K H' (ps.map (·.1)) vs fp->cI z H (jM ps) fp->Q vs H')->ta σ H Q)
  (ok:Ok X.K H0 S z aq ρ σ H) (e0:xO i cn m G g ρ=some (d,ρ')) (kk:∀z' H' v,Ok X.K H0 S z' aq ρ' σ H'->Rep X.K H' d v []->Q v H') :
  CO C m (dJ X.K G) [] E0 (G7 i) ta σ H Q:=by
 obtain⟨sG,qs,d1,h1,h2,hm,oj,hG,rfl⟩:=QC e0;obtain⟨v,bH,hs,r0,zz⟩:=ok.sl i _ _ h1;refine⟨v,hs,?_⟩;obtain⟨b,dx,fs,gf,rfl,GA,h4,h5,h6,h7⟩:=r0.lM hC.ns;refine⟨b,dx,fs,rfl,h4,rP h6 hm,?_⟩;refine qa ok h2 λH2 vs l9 s2 r2 g2=>?_
 rw[acE];have nJ:=ok.same s2;refine⟨b,vs,_,bH,_,l9,d,d1,rfl,r0.same s2,zz.1,r2,F2 ok oj g2 zz,hG,λH3 u bR im kp r1 nd fr rr=>?_⟩;obtain⟨z',iV⟩:=nJ.put h1 hs zz im kp r1 nd fr;exact kk z' H3 u iV rr
theorem kT(i:Nat)(hC:ClsAt X.K cn C)(hm:kG X.K C m f)(GG:bX X.prog X.w X.K X.mg X.base c9 k f fd ps (dJ X.K G))(hr:bu k X.A)(hb:Binds X.K fd ps [])(va:VA X i x:=by walk_at "va")
  (ht:uv X (.Name x p1) m apos [] pos pl:=by exact rfl):FZ X (.Call (.Attribute (.Name x p1) m apos) [] [] pos) (xO i cn m G aJ):=
 ⟨_,Pw va.pe hC.cl hm GG hr hb .nil nq ht,@λH0 S z aq ρ σ H Q d ρ' ok e0 kk=>Wy hC va.N (@λ_ _ _ _ _ _ H _ _ _ e q=>by cases e;exact q H _ _ (aH.refl H) .nil .nil) ok e0 kk⟩
noncomputable def sZ(f:XF):SF:=λρ=>(f ρ).map λw=>.nx w.2
theorem qG(he:FZ X e fx)(j7:swapsWith e none pos.line X.env=pure false:=by rfl):eV X (.Expr e pos) (sZ fx):=by
 obtain⟨t,p,q⟩:=he;exists 23,CG p j7;unfold sZ at e;exists h,fx ρ,w,e,0;obtain⟨d,aS⟩:=w;rw[h] at e;cases e;exact q ok h λz' H1 v bG r1=>k z' σ H1 bG (.refl _ _)
def MA(i:Nat)(f:XF):SF:=λρ=>match f ρ with
 |some (d,ρ')=>some (.nx (iB ρ' i d .own))
 |none=>none
theorem XA(i:Nat)(he:FZ X e fx)(hN:X.N.Nodup)(hi:X.N[i]? = some x:=by rfl)(hx:Loc X.env.scope x:=by first|exact Or.inl rfl|exact Or.inr rfl)
  (hs:swapsWith e (some (.Name x pos')) pos.line X.env=pure false:=by rfl) (hf:v6 X x:=by first|exact .inl rfl|exact .inr rfl) (k7:kK X x=false:=by rfl):eV X (.Assign [.Name x pos'] e pos) (MA i fx):=by
 obtain⟨t,p,q⟩:=he;exists 23,AL hN hi hx p hs hf;unfold MA at e;cases h:fx ρ with
 |none=>rw[h] at e;cases e
 |some w=>
  obtain⟨d,aS⟩:=w;rw[h] at e;cases e;refine q ok h λz1 H1 v bG r1=>?_
  exact bG.stored (aH.refl H1) r1 .nil λz' aT=>k z' _ H1 aT (.set hi k7)
end
noncomputable def uX(cn:Str)(G:MF)(g:AF):EF:=λρ=>(g ρ).bind λps=>match G (.ins cn []) (ps.map (·.1)) with
 |some (.aA,d)=>some (d,.own)
 |_=>none
section
variable{X:Cx}
theorem make_core{Q:VK}(hn:PySem.W.nsIn X.K mainGlobals cn=some (some (.ref C)))(r1:aB X.K H1 ds vs fp)(h3:G (.ins cn []) ds=some (.aA,d))(kk:∀H' v fp,aH H1 H'->Rep X.K H' d v fp->fp.Nodup->(∀a∈fp,H1 a=none)->Q v H'):
  ∀x dx,H1 x=none->H1 dx=none->dx≠x->dJ X.K G (.ref x::(vs++[])) (upd (upd H1 dx (.own x)) x (.ins C dx [])) (λv H2=>v=.aA/\Q (.ref x) H2) E0:=by
 intro b dx nb BF ne;rw[acE];have s2:aH H1 (upd (upd H1 dx (.own b)) b (.ins C dx [])):=λc o e=>by rw[aP (cV e nb),aP (cV e BF)];exact e
 refine⟨b,vs,.ins cn [],[b,dx],_,fp,.aA,d,rfl,.ins hn cB (by rw[aP ne];exact cB) rfl .nil,?_,r1.same s2,λc m n=>?_,h3,λH3 u bR im kp r3 nd fr rr=>?_⟩
 .exact abV.mpr ⟨λm=>ne (aa3.mp m).symm,abV.mpr ⟨(λm=>nomatch m),acj⟩⟩
 .obtain⟨o,w,_⟩:=r1.cC c m;rcases abb.mp n with e|n
  .rw[e,nb] at w;cases w
  .rw[aa3.mp n,BF] at w;cases w
 .cases rr;refine⟨rfl,kk H3 _ bR (λc o e=>?_) r3 nd λc m=>?_⟩
  .refine kp c o (λn=>?_) (s2 c o e);rcases abb.mp n with q|n
   .rw[q,nb] at e;cases e
   .rw[aa3.mp n,BF] at e;cases e
  .rcases fr c m with q|q
   .rcases abb.mp q with q|q
    .rw[q];exact nb
    .rw[aa3.mp q];exact BF
   .exact s2.free q
theorem NQ(hn:PySem.W.nsIn X.K mainGlobals cn=some (some (.ref C)))
  (qa:∀{H0} {S} {z} {aq} {ρ} {σ} {H} {Q} {ps},Ok X.K H0 S z aq ρ σ H->g ρ=some ps->(∀H' vs fp,aH H H'->aB X.K H' (ps.map (·.1)) vs fp->cI z H (jM ps) fp->Q vs H')->ta σ H Q)
  (ok:Ok X.K H0 S z aq ρ σ H) (e0:uX cn G g ρ=some (d,tg)) (kk:∀H' v fp,aH H H'->Rep X.K H' d v fp->cI z H tg fp->Q v H') :
  Fe C (dJ X.K G) [] E0 ta σ H Q:=by
 unfold uX at e0;exists h2,g ρ,qs,e0,0;rw[h2,acV] at e0;exists h3,G (.ins cn []) (qs.map (·.1)),w,e0,0;obtain⟨r,d1⟩:=w;rw[h3] at e0;cases r<;>try (cases e0;done)
 cases e0;refine qa ok h2 λH1 vs fp s1 r1 _=>?_
 exact make_core hn r1 h3 λH' v fp s2 r3 nd fr=>kk H' v fp (s1.trans s2) r3 ⟨nd,λa m=>s1.free (fr a m)⟩
theorem Vl(hn:PySem.W.nsIn X.K mainGlobals cn=some (some (.ref C)))(M:Mk X.K C f)(GG:bX X.prog X.w X.K X.mg X.base c9 k f fd ps (dJ X.K G))(hr:bu (k+1) X.A)(hm:X.mg x=some (.ref C))(hb:Binds X.K fd ps [])(hg:GD X x:=by exact⟨rfl,by decide⟩):
  FP X (.Call (.Name x p) [] [] pos) (uX cn G aJ):=
 ⟨_,acR M GG hr hg.1 hm hb .nil nq hg.2,@λH0 S z aq ρ σ H Q d tg ok e0 kk=>NQ hn (@λ_ _ _ _ _ _ H _ _ _ e q=>by cases e;exact q H _ _ (aH.refl H) .nil .nil) ok e0 kk⟩
theorem MV(hn:PySem.W.nsIn X.K mainGlobals cn=some (some (.ref C)))(M:Mk X.K C f)(GG:bX X.prog X.w X.K X.mg X.base c9 k f fd ps (dJ X.K G))(hr:bu (k+1) X.A)(hm:X.mg x=some (.ref C))(hb:Binds X.K fd ps [])(ha:FA X (e::es) g)(hg:GD X x:=by exact⟨rfl,by decide⟩)
  (he:SE X e es pos:=by exact⟨rfl,rfl⟩):FP X (.Call (.Name x p) (e::es) [] pos) (uX cn G g):=by
 obtain⟨ta,pa,_,qa⟩:=ha;exact⟨_,afA M GG hr hg.1 hm hb .nil nq pa hg.2 he.1 he.2,@λH0 S z aq ρ σ H Q d tg ok e0 kk=>NQ hn qa ok e0 kk⟩
end
end L2.Ev
namespace L2
open PySem PySem.Spec PyProof.Rows
noncomputable abbrev Cx.kO(X:Cx)(xs:List Str):Cx:={ X with fn:=λy=>!(xs.contains y) }
theorem iH.kO{st:List Stmt}(hX:X.fn=λ_=>true)(h:iH (X.kO xs) st t):iH X st t:=λaf s σ H W I hw=>by
 have I':Inv (X.kO xs) af σ H s:=⟨⟨I.ok.mod,I.ok.kind,I.ok.glob,I.ok.blt,I.ok.above,I.ok.inj,I.ok.has,λx c _ e=>I.ok.oO x c (by rw[hX]) e,I.ok.hd,I.ok.frames,I.ok.pQ,I.ok.rR,I.ok.bs,I.ok.i_,I.ok.nZ,I.ok.n6,I.ok.iZ,I.ok.lO⟩,I.os,I.bare,I.base,I.loc,I.cell,I.free,I.gS,I.pin,I.aE,I.len,I.hq⟩
 have back:∀{az} {H'} {s'},Inv (X.kO xs) af az H' s'->Inv X af az H' s':=λJ=>⟨I.ok,J.os,J.bare,J.base,J.loc,J.cell,J.free,J.gS,J.pin,J.aE,J.len,J.hq⟩
 refine adU (h af s σ H W I' hw) (λf s' q=>?_) λ_ _ z=>z
 cases f with
 |next=>obtain⟨a,b,J,q⟩:=q;exact⟨a,b,back J,q⟩
 |brk=>obtain⟨a,b,J,q⟩:=q;exact⟨a,b,back J,q⟩
 |cont=>obtain⟨a,b,J,q⟩:=q;exact⟨a,b,back J,q⟩
 |ret u=>obtain⟨v,a,b,J,r,q⟩:=q;exact⟨v,a,b,back J,r,q⟩
end L2
namespace L2.Ev
open PySem PySem.Spec PyProof.Rows
noncomputable def j6:List Nat->aO->Option (List D)
 |[],_=>some []
 |i::J,ρ=>match ρ[i]? with
  |some (some (d,Tag.own))=>(j6 J ρ).map (d::·)
  |_=>none
def yC(J:List Nat)(im:Bool)(X:Cx)(H0:Hp)(S:List Addr)(aq:List qS)(oY:St)(E:Ends):Out->Prop
 |.rt p=>∃r es,p=.tup (r::es)/\∀z ρ σ H v cH,Ok X.K H0 S z aq ρ σ H->j6 J ρ=some es->Kp X oY σ->Rep X.K H r v cH->cH.Nodup->(∀b∈cH,(H0 b=none\/b∈S)/\∀i∈J,z b≠some i)->(im=true->cH=[])->E.rt v H
 |o=>mP X H0 S aq oY E o
def FJ(J:List Nat)(im:Bool)(X:Cx)(st:List Stmt)(f:SF):Prop:=∃t,iH X st t/\∀{H0} {S} {z} {aq} {ρ} {σ} {H} {E} {o},
 Ok X.K H0 S z aq ρ σ H->f ρ=some o->yC J im X H0 S aq σ E o->t E σ H
def oU(J:List Nat)(im:Bool)(X:Cx)(st:Stmt)(f:SF):Prop:=∃t,PS X st t/\∀{H0} {S} {z} {aq} {ρ} {σ} {H} {E} {o},
 Ok X.K H0 S z aq ρ σ H->f ρ=some o->yC J im X H0 S aq σ E o->t E σ H
noncomputable abbrev FQ:=FJ [0]
noncomputable abbrev FM:=FJ [0] true
theorem yC.of(k:yC J im X H0 S aq σ E o)(a:Kp X σ az):yC J im X H0 S aq az E o:=by
 cases o with
 |nx ρ=>exact mP.of (o:=.nx ρ) k a
 |bk ρ=>exact mP.of (o:=.bk ρ) k a
 |ct ρ=>exact mP.of (o:=.ct ρ) k a
 |er raw cn ρ=>exact uZ.of k a
 |rt d=>obtain⟨r,d0,e,k⟩:=k;exact⟨r,d0,e,λz ρ s H v cH ok h b=>k z ρ s H v cH ok h (a.trans b)⟩
noncomputable def jn(f:SF):SF:=λρ=>match f ρ with
 |some (.nx ρ')=>some (.nx ρ')
 |some (.bk ρ')=>some (.bk ρ')
 |some (.ct ρ')=>some (.ct ρ')
 |some (.er raw cn ρ')=>some (.er raw cn ρ')
 |_=>none
section
variable{st:Stmt}{rest:List Stmt}
theorem bA(h:eV X st f):oU J im X st (jn f):=by
 obtain⟨t,p,q⟩:=h;refine⟨t,p,@λH0 S z aq ρ σ H E o ok e k=>?_⟩;unfold jn at e;cases h:f ρ with
 |none=>rw[h] at e;cases e
 |some w=>
  rw[h] at e;refine q ok h ?_;cases w<;>first|(cases e;done)|(cases e;exact k)
theorem ir:FJ J im X [] gK:=⟨_,OY,@λ_ _ z _ _ σ H _ _ ok e k=>by cases e;exact k z σ H ok (.refl _ _)⟩
theorem cL(h:oU J im X st f):FJ J im X [st] f:=let⟨t,p,q⟩:=h;⟨t,N4 p,q⟩
theorem bg(h1:oU J im X st f)(h2:FJ J im X rest g):FJ J im X (st::rest) (b7 f g):=by
 obtain⟨t,p,q⟩:=h1;obtain⟨t',p',q'⟩:=h2;exists 23,zh p p';unfold b7 at e;cases h:f ρ with
 |none=>rw[h] at e;cases e
 |some w=>
  refine q ok h ?_;rw[h] at e;cases w with
  |nx ρ'=>exact λz' az H' aT a=>q' aT e (k.of a)
  |rt d=>cases e;exact k
  |bk ρ'=>cases e;exact k
  |ct ρ'=>cases e;exact k
  |er _ _ _=>cases e;exact k
theorem gA(hc:FT X c tc)(ha:FJ J im X a f)(hb:FJ J im X b g):oU J im X (.If c a b pos) (eX tc f g):=by
 obtain⟨t,p,q⟩:=hc;obtain⟨t1,p1,q1⟩:=ha;obtain⟨t2,p2,q2⟩:=hb;exists 23,Ah p p1 p2;unfold eX at e;cases h:tc ρ with
 |none=>rw[h] at e;cases e
 |some y=>
  rw[h] at e;refine q ok h λH1 s1=>?_
  cases y with
  |true=>rw[if_pos rfl];exact q1 (ok.same s1) e k
  |false=>rw[if_neg abz];exact q2 (ok.same s1) e k
theorem oq:oU J im X st LO:=⟨_,MY,@λ_ _ _ _ _ _ _ _ _ _ e _=>by cases e⟩
def uP(f:EF)(J:List Nat:=[0]):SF:=λρ=>match f ρ,j6 J ρ with
 |some (r,_),some es=>if aC r=true then some (.rt (.tup (r::es))) else none
 |_,_=>none
theorem mH(he:FP X e f):oU J im X (.Return (some e) pos) (uP f J):=by
 obtain⟨t,p,q⟩:=he;exists 23,zA p;unfold uP at e
 split at e
 .rename_i r tg es h1 h2
  by_cases hi:aC r=true
  .rw[if_pos hi] at e;cases e;obtain⟨r',d8,ee,k⟩:=k;cases ee;refine q ok h1 λH1 v fp s1 r1 _=>?_
   have hn:=r1.aC hi;subst hn;exact k z ρ σ H1 v [] (ok.same s1) h2 (.refl _ _) r1 acj (λb m=>nomatch m) λ_=>rfl
  .rw[if_neg hi] at e;cases e
 .cases e
def vA(f:XF)(J:List Nat:=[0]):SF:=λρ=>match f ρ with
 |some (r,ρ')=>(j6 J ρ').map λes=>.rt (.tup (r::es))
 |none=>none
theorem yi(he:FZ X e f):oU J im X (.Return (some e) pos) (vA f J):=by
 obtain⟨t,p,q⟩:=he;exists 23,zA p;unfold vA at e;cases h1:f ρ with
 |none=>rw[h1] at e;cases e
 |some w=>
  rw[h1] at e;obtain⟨es,h2,rfl⟩:=acq.mp e;obtain⟨r',d8,ee,k⟩:=k;cases ee;exact q ok h1 λz' H1 v bG r1=>k z' w.2 σ H1 v [] bG h2 (.refl _ _) r1 acj (λb m=>nomatch m) λ_=>rfl
def Sm(i:Nat)(J:List Nat:=[0]):SF:=λρ=>match ρ[i]?,j6 J ρ with
 |some (some (r,Tag.own)),some es=>if J.contains i=true then none else some (.rt (.tup (r::es)))
 |_,_=>none
theorem ZU(i:Nat)(va:VA X i x:=by walk_at "va"):oU J false X (.Return (some (.Name x p1)) pos) (Sm i J):=by
 exists 23,zA va.pe;unfold Sm at e
 split at e
 .rename_i r es h1 h0
  by_cases hj:J.contains i=true
  .rw[if_pos hj] at e;cases e
  .rw[if_neg hj] at e;cases e;obtain⟨r',d8,ee,k⟩:=k;cases ee;obtain⟨v,fp,hs,rr,zz⟩:=ok.sl i _ _ h1;refine⟨v,hs,k z ρ σ H v fp ok h0 (.refl _ _) rr zz.1 (λb m=>⟨(ok.zd b i (zz.2 b m)).2,λj mj q=>?_⟩) λq=>nomatch q⟩;rw[zz.2 b m] at q;cases q;exact hj (adB.mpr mj)
 .cases e
end
noncomputable def A2(n:Nat)(d0:D)(ds:List D):aO:=some (d0,.own)::(ds.map (λd=>some (d,.sh []))++List.replicate (n-(ds.length+1)) none)
def runM(n N:Nat)(b:SF):MF:=λd0 ds=>if ds.length + 1=n then(match b (A2 N d0 ds) with
 |some (.rt (.tup [r,d1]))=>some (r,d1)
 |some (.nx ρ)=>match ρ[0]? with
  |some (some (d1,Tag.own))=>some (.aA,d1)
  |_=>none
 |_=>none) else none
theorem aeS(h:j6 [0] ρ=some [d]):ρ[0]? = some (some (d,.own)):=by
 unfold j6 at h
 split at h
 .rename_i d' e;cases h;exact e
 .cases h
def Fg(im:Bool)(K:PySem.W.Frag)(G:MF):Sp:=λvs H Q _=>∃v0 ws d0 bH ds fT r d1,vs=v0::ws/\Rep K H d0 v0 bH/\bH.Nodup/\aB K H ds ws fT/\(∀b∈fT,b∉bH)/\G d0 ds=some (r,d1)/\
 ∀H' v bR cH,a_ H H'->(∀b o,b∉bH->H b=some o->H' b=some o)->Rep K H' d1 v0 bR->bR.Nodup->(∀b∈bR,b∈bH\/H b=none)->Rep K H' r v cH->cH.Nodup->(∀b∈cH,(b∈bH\/H b=none)/\b∉bR)->(im=true->cH=[])->Q v H'
section
variable{K:PySem.W.Frag}
theorem TZ:∀vs H Q E,dJ K G vs H Q E->Fg true K G vs H Q E:=by
 rintro _ _ _ _ ⟨a,ws,d0,bH,ds,fT,r,d1,h1,h2,h3,h4,h5,h6,q⟩
 exact⟨.ref a,ws,d0,bH,ds,fT,r,d1,h1,h2,h3,h4,h5,h6,λH' v bR cH a1 a2 a3 a4 a5 a6 _ _ e=>q H' v bR a1 a2 a3 a4 a5 (by rw[<- e rfl];exact a6)⟩
theorem UW{st:Stmt}(F:jd K x qual st f fd)(S:o7 N ps (cz st))(h0:N[0]? = some x0)
  (hb:∀(aR) (A) (outer) (s) (H) (E),bu k (A.deeper (envOfC qual (cz st) s.heap.objs.size f aR))->FQ im ((fU c9 P w K mg base N qual (cz st) f aR A outer s H E).eZ.kO [x0]) (gO st) b) :
  bX P w K mg base c9 (k+1) f fd ps (Fg im K (runM ps.length N.length b)):=by
 have mh:∀{d0} {ds} {r},runM ps.length N.length b d0 ds=some r->ds.length+1=ps.length:=λ{d0 ds r} e=>by
  unfold runM at e
  split at e
  .assumption
  .cases e
 refine F.ok S (λvs H Q E h=>?_) λaR A outer s H vs Q E hr h=>?_<;>obtain⟨v0,ws,d0,bH,ds,fT,r,d1,e0,r0,nd0,rs,dj,e,q⟩:=h
 .rw[e0,acf,<- rs.length,mh e]
 .obtain⟨t,pt,sd⟩:=hb aR A outer s H E hr;refine⟨t,pt.kO rfl,?_⟩;have r0':aB K H [d0] [v0] bH:=by have:=aB.cons r0 .nil;rwa [acE] at this
  obtain⟨z,ok⟩:=Ok.kq r0' nd0 rs dj;rw[e0];have fin:∀{z} {ρ} {σ} {H'} {v} {cH},Ok K H bH z [] ρ σ H'->ρ[0]? = some (some (d1,.own))->Kp ((fU c9 P w K mg base N qual (cz st) f aR A outer s H E).eZ.kO [x0]) (start N (v0::ws)) σ->Rep K H' r v cH->cH.Nodup->(∀b∈cH,(H b=none\/b∈bH)/\z b≠some 0)->(im=true->cH=[])->Q v H':=by
   intro z ρ σ H' v cH aT h1 kp rr xM qM hi;obtain⟨u,bR,hs,r1,zz⟩:=aT.sl 0 d1 .own h1;have hk:=kp 0 _ h0 (by
    show(x0==("self":Str)||(!([x0].contains ("self":Str))&&!(!([x0].contains x0))))=true
    by_cases h:x0=("self":Str)
    .rw[h];rfl
    .simp[afr h])
   rw[hk] at hs;cases hs;have st:∀{c} {o},H c=some o->i7 o=false->H' c=some o:=λ{c o} e' mo=>aT.en c _ e' λm=>by
    obtain⟨o',w,lV⟩:=r0.cC c m;rw[e'] at w;cases w;rw[mo] at lV;cases lV
   exact q H' v bR cH ⟨λc xs e'=>st e' rfl,λc o u e'=>st e' rfl,λc φ e'=>st e' rfl⟩ (λc o n e'=>aT.en c o e' n) r1 zz.1 (λc m=>((aT.zd c 0 (zz.2 c m)).2).symm.imp id id) rr xM (λc m=>⟨(qM c m).1.symm.imp id id,λm'=>(qM c m).2 (zz.2 c m')⟩) hi
  have hl:=mh e;unfold runM at e;rw[if_pos hl] at e;cases ho:b (A2 N.length d0 ds) with
  |none=>rw[ho] at e;cases e
  |some o=>
   rw[ho] at e;refine sd ok ho ?_;cases o with
   |rt p=>
    have hp:p=.tup [r,d1]:=by
     split at e<;>rename_i hh
     .cases e;cases hh;rfl
     .cases hh
     .cases e
    exact⟨r,[d1],hp,λz ρ σ H' v cH aT h1 kp rr nd fr=>fin aT (aeS h1) kp rr nd λb m=>⟨(fr b m).1,(fr b m).2 0 aar⟩⟩
   |nx ρ'=>
    exists 70
    split at e
    .rename_i dd h1;cases e;exact λz σ H' aT kp=>fin aT h1 kp .aA acj (λb m=>nomatch m) λ_=>rfl
    .cases e
   |bk _=>cases e
   |ct _=>cases e
   |er _ _ _=>cases e
end
noncomputable def dR(f:Str)(d:D):List (Str×D)->List (Str×D)
 |[]=>[(f,d)]
 |(g,x)::r=>if g=f then(g,d)::r else(g,x)::dR f d r
theorem O8:∀{es} {fs},es.map (·.1)=fs.map (·.1)->(dR f d es).map (·.1)=(fq f v fs).map (·.1)
 |[],[],_=>rfl
 |[],_::_,k=>by simp at k
 |_::_,[],k=>by simp at k
 |(x,d0)::es,(y,v0)::fs,k=>by
  simp only[aas,afB] at k;obtain⟨rfl,k⟩:=k;unfold dR fq
  by_cases hx:x=f
  .rw[if_pos hx,if_pos hx,aas,aas,k]
  .rw[if_neg hx,if_neg hx,aas,aas,O8 k]
theorem QO:∀{es},es.lookup f=some d0->(dR f d es).map (·.1)=es.map (·.1)
 |[],e=>by cases e
 |(x,d1)::es,e=>by
  unfold dR
  by_cases hx:x=f
  .rw[if_pos hx];rfl
  .have hb:=ado.mpr λq=>hx q.symm
   simp only[List.lookup,hb] at e;rw[if_neg hx,aas,QO e];rfl
section
variable{K:PySem.W.Frag}
theorem aB.fq(rd:Rep K H d v fd):∀{es} {fs} {g},es.map (·.1)=fs.map (·.1)->aB K H (es.map (·.2)) (fs.map (·.2)) g->
  ∃g',aB K H ((dR f d es).map (·.2)) ((L2.fq f v fs).map (·.2)) g'/\(∀a∈g',a∈g\/a∈fd)/\(g.Nodup->fd.Nodup->(∀a∈fd,a∉g)->g'.Nodup)
 |[],[],_,_,r=>by
  cases r;exact⟨fd++[],.cons rd .nil,λa m=>.inr (by simpa using m),λ_ n _=>by simpa using n⟩
 |[],_::_,_,k,_=>by simp at k
 |_::_,[],_,k,_=>by simp at k
 |(x,d0)::es,(y,v0)::fs,_,k,r=>by
  simp only[aas,afB] at k;obtain⟨rfl,k⟩:=k;cases r with
  | @cons _ _ _ _ f1 f2 r1 r2=>
   unfold dR L2.fq
   by_cases hx:x=f
   .rw[if_pos hx,if_pos hx];refine⟨fd++f2,.cons rd r2,λa m=>(abE.mp m).elim .inr λm=>.inl (aaV _ m),λn1 n2 n3=>?_⟩;exact acP.mpr ⟨n2,(acP.mp n1).2.1,λa ma b mb e=>n3 a ma (aaV _ (e ▸ mb))⟩
   .rw[if_neg hx,if_neg hx];obtain⟨g',h1,h2,h3⟩:=aB.fq rd k r2;refine⟨f1++g',.cons r1 h1,λa m=>?_,λn1 n2 n3=>?_⟩
    .rcases abE.mp m with m|m
     .exact .inl (abq _ m)
     .exact(h2 a m).imp (aaV _) id
    .obtain⟨a1,a2,a3⟩:=acP.mp n1;refine acP.mpr ⟨a1,h3 a2 n2 (λa m q=>n3 a m (aaV _ q)),λa ma b mb e=>?_⟩;rcases h2 b mb with q|q
     .exact a3 a ma b q e
     .exact n3 b q (abq _ (e ▸ ma))
theorem aB.place:∀{es}{fs:List (Str×V)} {g},es.map (·.1)=fs.map (·.1)->aB K H (es.map (·.2)) (fs.map (·.2)) g->g.Nodup->es.lookup f=some d0->
  ∃v gf,fs.lookup f=some v/\Rep K H d0 v gf/\gf.Nodup/\(∀a∈gf,a∈g)/\∀(H') (d1) (g1),a_ H H'->(∀b o,b∉gf->H b=some o->H' b=some o)->Rep K H' d1 v g1->g1.Nodup->(∀b∈g1,b∈gf\/H b=none)->
   ∃g',aB K H' ((dR f d1 es).map (·.2)) (fs.map (·.2)) g'/\g'.Nodup/\∀b∈g',b∈g\/H b=none
 |[],_,_,_,_,_,e=>by cases e
 |_::_,[],_,k,_,_,_=>by simp at k
 |(x,d)::es,(y,v0)::fs,_,k,r,nd,e=>by
  simp only[aas,afB] at k;obtain⟨rfl,k⟩:=k;cases r with
  | @cons _ _ _ _ f1 f2 r1 r2=>
   obtain⟨a1,a2,a3⟩:=acP.mp nd
   by_cases hx:x=f
   .subst hx;have hb:=afl x;simp only[List.lookup,hb] at e ⊢;cases e;refine⟨v0,f1,rfl,r1,a1,λa m=>abq _ m,λH' d1 g1 im kp rr n1 fr=>?_⟩;refine⟨g1++f2,?_,acP.mpr ⟨n1,a2,λa ma b mb e=>?_⟩,λb m=>?_⟩
    .unfold dR;rw[if_pos rfl];refine .cons rr (r2.frame (λa m=>?_) im);obtain⟨o,w,_⟩:=r2.cC a m;rw[kp a o (λq=>a3 a q a m rfl) w,w]
    .subst e;obtain⟨o,w,_⟩:=r2.cC a mb;rcases fr a ma with q|q
     .exact a3 a q a mb rfl
     .rw[q] at w;cases w
    .rcases abE.mp m with m|m
     .exact(fr b m).imp (abq _) id
     .exact .inl (aaV _ m)
   .have hb:=ado.mpr λq=>hx q.symm
    simp only[List.lookup,hb] at e ⊢;obtain⟨v,gf,h1,h2,h3,h4,h5⟩:=aB.place k r2 a2 e;refine⟨v,gf,h1,h2,h3,λa m=>aaV _ (h4 a m),λH' d1 g1 im kp rr n1 fr=>?_⟩;obtain⟨g',c1,c2,c3⟩:=h5 H' d1 g1 im kp rr n1 fr;refine⟨f1++g',?_,acP.mpr ⟨a1,c2,λa ma b mb e=>?_⟩,λb m=>?_⟩
    .unfold dR;rw[if_neg hx];refine .cons (r1.frame (λa m=>?_) im) c1;obtain⟨o,w,_⟩:=r1.cC a m;rw[kp a o (λq=>a3 a m a (h4 a q) rfl) w,w]
    .subst e;obtain⟨o,w,_⟩:=r1.cC a ma;rcases c3 a mb with q|q
     .exact a3 a ma a q rfl
     .rw[q] at w;cases w
    .rcases abE.mp m with m|m
     .exact .inl (abq _ m)
     .exact(c3 b m).imp (aaV _) id
theorem Rep.Q9(r:Rep K H (.ins cn es) v fp)(hn:PySem.W.nsIn K mainGlobals cn=some (some (.ref C)))(nd:fp.Nodup)(e:es.lookup f=some d0):
  ∃a dx fs u gf,(a∉gf/\dx∉gf)/\v=.ref a/\H a=some (.ins C dx fs)/\fs.lookup f=some u/\Rep K H d0 u gf/\gf.Nodup/\(∀b∈gf,b∈fp)/\∀(H':Hp) (d1) (g1),a_ H H'->(∀b o,b∉gf->H b=some o->H' b=some o)->Rep K H' d1 u g1->g1.Nodup->(∀b∈g1,b∈gf\/H b=none)->
   ∃bR,Rep K H' (.ins cn (dR f d1 es)) v bR/\bR.Nodup/\∀b∈bR,b∈fp\/H b=none:=by
 obtain⟨a,dx,fs,g,rfl,rfl,h1,h2,h3,h4⟩:=r.lM hn;obtain⟨n1,n2⟩:=abV.mp nd;obtain⟨n3,n4⟩:=abV.mp n2;obtain⟨u,gf,c1,c2,c3,c4,c5⟩:=aB.place h3 h4 n4 e;refine⟨a,dx,fs,u,gf,⟨λm=>n1 (aaa _ (c4 _ m)),λm=>n3 (c4 _ m)⟩,rfl,h1,c1,c2,c3,λb m=>aaa _ (aaa _ (c4 b m)),λH' d1 g1 im kp rr m1 fr=>?_⟩;obtain⟨g',e1,e2,e3⟩:=c5 H' d1 g1 im kp rr m1 fr;have ka:=kp a _ (λq=>n1 (aaa _ (c4 a q))) h1;have kd:=kp dx _ (λq=>n3 (c4 dx q)) h2;refine⟨a::dx::g',.ins hn ka kd (by rw[QO e];exact h3) e1,?_,λb m=>?_⟩
 .refine abV.mpr ⟨λm=>?_,abV.mpr ⟨λm=>?_,e2⟩⟩
  .rcases abb.mp m with q|m
   .exact n1 (by rw[q];exact aar)
   .rcases e3 a m with q|q
    .exact n1 (aaa _ q)
    .rw[h1] at q;cases q
  .rcases e3 dx m with q|q
   .exact n3 q
   .rw[h2] at q;cases q
 .rcases abb.mp m with q|m
  .exact .inl (by rw[q];exact aar)
  .rcases abb.mp m with q|m
   .exact .inl (by rw[q];exact aaa _ aar)
   .exact(e3 b m).imp (λq=>aaa _ (aaa _ q)) id
theorem Rep.place(r:Rep K H (.ins cn es) v fp)(hn:PySem.W.nsIn K mainGlobals cn=some (some (.ref C)))(nd:fp.Nodup)(e:es.lookup f=some d0):
  ∃a dx fs u gf,v=.ref a/\H a=some (.ins C dx fs)/\fs.lookup f=some u/\Rep K H d0 u gf/\gf.Nodup/\(∀b∈gf,b∈fp)/\∀(H') (d1) (g1),a_ H H'->(∀b o,b∉gf->H b=some o->H' b=some o)->Rep K H' d1 u g1->g1.Nodup->(∀b∈g1,b∈gf\/H b=none)->
   ∃bR,Rep K H' (.ins cn (dR f d1 es)) v bR/\bR.Nodup/\∀b∈bR,b∈fp\/H b=none:=
 let⟨a,dx,fs,u,gf,_,h⟩:=r.Q9 hn nd e;⟨a,dx,fs,u,gf,h⟩
end
theorem Ok.fld{K:PySem.W.Frag}(hC:ClsAt K cn C)(ok:Ok K H0 S z aq ρ σ H)(h:ρ[i]? = some (some (.ins cn es,.own)))
  (hs:σ[i]? = some (some (.ref b))) (hb:H b=some (.ins C dx fs)) (s1:aH H H1) (r1:Rep K H1 d y fd) (nd:fd.Nodup) (fr:∀c∈fd,H c=none):∃z',Ok K H0 S z' aq (bT ρ i (.ins cn (dR f d es))) σ (upd H1 b (.ins C dx (L2.fq f y fs))):=by
 obtain⟨v,bH,cN,r0,zz⟩:=ok.sl i _ _ h;rw[hs] at cN;cases cN;obtain⟨b',xH,uV,g,e,rfl,h3,h4,h5,h6⟩:=(r0.same s1).lM hC.ns;cases e;rw[s1 _ _ hb] at h3;cases h3;have h3:=s1 _ _ hb;have By:∀c∈fd,c∉b::dx::g:=λc m n=>by
  obtain⟨⟨o,w⟩,_⟩:=ok.zd c i (zz.2 c n);rw[fr c m] at w;cases w
 have me:b∈b::dx::g:=aar;have md:dx∈b::dx::g:=aaa _ aar;have mg:∀{c},c∈g->c∈b::dx::g:=λm=>aaa _ (aaa _ m)
 obtain⟨n1,n2⟩:=abV.mp zz.1;obtain⟨n3,n4⟩:=abV.mp n2;have ne:∀{c},c∈g->c≠b:=λm q=>n1 (q ▸ aaa _ m)
 have im:a_ H1 (upd H1 b (.ins C dx (L2.fq f y fs))):=a_.upd h3 rfl;obtain⟨g',c1,c2,c3⟩:=aB.fq (r1.frame (λc m=>aP λq:c=b=>By c m (q ▸ me)) im) h5 (h6.frame (λc m=>aP (ne m)) im);have out:∀{c},c∈g'->c∈g\/c∈fd:=λ{c} m=>c2 c m
 refine ok.put h hs zz ((a_.of s1).trans im) (λc o n e=>by rw[aP λq:c=b=>n (q ▸ me)];exact s1 c o e) (.ins hC.ns cB (by rw[aP λq:dx=b=>n1 (q ▸ aar)];exact h4) (O8 h5) c1) ?_ λc m=>?_
 .refine abV.mpr ⟨λm=>?_,abV.mpr ⟨λm=>(out m).elim n3 λq=>By dx q md,c3 n4 nd λc m n=>By c m (mg n)⟩⟩;rcases abb.mp m with q|m
  .exact n1 (q ▸ aar)
  .exact(out m).elim (λq=>n1 (aaa _ q)) λq=>By b q me
 .rcases abb.mp m with q|m
  .exact .inl (q ▸ me)
  .rcases abb.mp m with q|m
   .exact .inl (q ▸ md)
   .exact(out m).imp mg (fr c)
def xr(i:Nat)(cn f:Str)(fv:EF):SF:=λρ=>match fv ρ,ρ[i]? with
 |some (d,t),some (some (.ins c es,.own))=>if c=cn/\es.length<1000/\(jT t||aC d)=true then some (.nx (bT ρ i (.ins c (dR f d es)))) else none
 |_,_=>none
theorem fH(i:Nat)(hC:ClsAt X.K cn C)(na:jr X.K C f)(hv:FP X a fv)(va:VA X i x:=by walk_at "va")(hs:swapsWith a (some (.Attribute (.Name x p1) f pos')) pos.line X.env=pure false:=by rfl):eV X (.Assign [.Attribute (.Name x p1) f pos'] a pos) (xr i cn f fv):=by
 obtain⟨t,p,q⟩:=hv;exists 23,adP va.pe p hs;unfold xr at e
 split at e
 .rename_i d tg c es h1 h2
  by_cases hc:c=cn/\es.length<1000/\(jT tg||aC d)=true
  .rw[if_pos hc] at e;cases e;obtain⟨rfl,hl,ho⟩:=hc;obtain⟨v,bH,cN,r0,zz⟩:=ok.sl i _ _ h2;refine q ok h1 λH1 y fd s1 r1 g1=>⟨v,cN,?_⟩
   obtain⟨b,dx,fs,g,rfl,rfl,h3,h4,h5,h6⟩:=r0.lM hC.ns;have lf:fs.length<1000:=by have:=congrArg List.length h5;rw[List.length_map,List.length_map] at this;lia
   refine⟨b,C,dx,fs,rfl,s1 _ _ h3,hC.cl,na,lf,?_⟩;have g:fd.Nodup/\∀a∈fd,H a=none:=by
    rcases(ahf _ _).mp ho with h|h
    .cases tg<;>first|exact g1|cases h
    .rw[r1.aC h];exact⟨acj,λc m=>nomatch m⟩
   obtain⟨z',aT⟩:=ok.fld hC h2 cN h3 s1 r1 g.1 g.2;exact k z' σ _ aT (.refl _ _)
  .rw[if_neg hc] at e;cases e
 .cases e
noncomputable def Kz:D->D->Option D
 |.int i,.int j=>some (.int (if j > i then j else i))
 |_,_=>none
theorem Z1(hc:X.calm=true)(hm:X.mg "max"=none)(ha:FP X a fa)(hb:FP X b fb)(hg:Gl X "max":=by rfl)(hs:starEach [a,b] X.env=[(false,eval a X.env),(false,eval b X.env)]:=by rfl)(cJ:Y2 X b:=by rfl)(hpl:(backTo pos (starEach [b] X.env)).any (·.1)=false:=by rfl):
  FP X (.Call (.Name "max" p) [a,b] [] pos) (e2 Kz fa fb):=by
 exists 51;exists 21,lR (Xm hc) hg hm boot_max (cP pa (cP pb eT cJ) (by rw[hs,cJ])) (he:=by rw[hs,cJ]) (hpl:=hpl);obtain⟨d1,t1,d2,t2,g1,g2,g3,rfl⟩:=nR e;refine sa ok g1 λH1 x f1 s1 r1 _=>?_
 refine sb (ok.same s1) g2 λH2 y f2 s2 r2 _=>?_
 unfold Kz at g3
 split at g3
 .cases g3;exact⟨_,_,by rw[r1.iy.1,r2.iy.1],k H2 _ [] (s1.trans s2) (.int _) .nil⟩
 .cases g3
noncomputable def BI:D->Option D
 |.int i=>some (.int (-i))
 |_=>none
theorem afa(ha:FP X a fa):FP X (.UnaryOp .USub a pos) (e1 BI fa):=by
 obtain⟨t,pa,q⟩:=ha;exists 21,ae7 Xe pa;obtain⟨d1,t1,g1,g2,rfl⟩:=sX e;refine q ok g1 λH1 x f1 s1 r1 _=>?_
 cases r1<;>cases g2
 exact⟨_,rfl,k H1 _ [] s1 (.int _) .nil⟩
theorem aba(hm:X.mg x=some (.int n tk))(hg:GD X x:=by exact⟨rfl,by decide⟩):FP X (.Name x pos) (eC (.int n)):=
 ⟨_,K4 hg.1 hm (v:=.int n) ⟨_,rfl⟩ hg.2,@λ_ _ _ _ _ _ H _ _ _ _ e q=>by cases e;exact q H _ _ (aH.refl H) (.int n) .nil⟩
noncomputable def G0(o o':D->D->Option D)(fa fb fc:EF):EF:=λρ=>match fa ρ,fb ρ with
 |some (d1,_),some (d2,_)=>match o d1 d2 with
  |some (.bl true)=>match fc ρ with
   |some (d3,_)=>(o' d2 d3).map λd=>(d,.own)
   |none=>none
  |some (.bl false)=>some (.bl false,.own)
  |_=>none
 |_,_=>none
theorem ZC(ho:c_ X (compareOp op) r)(lA:c_ X (compareOp yQ) r')(dd:gC X.K r o)(jW:gC X.K r' o')(ha:FP X a fa)(hb:FP X b fb)(hc:FP X c fc)(hm:lastMarks [op,yQ] [b,c]=false:=by with_unfolding_all rfl):
  FP X (.Compare a [op,yQ] [b,c] pos) (G0 o o' fa fb fc):=by
 exists 51;obtain⟨tc,pc,sc⟩:=hc;exists 21,aaC ho lA pa pb pc hm;unfold G0 at e
 split at e
 .rename_i d1 t1 d2 t2 e1 e2;refine sa ok e1 λH1 x f1 s1 r1 _=>?_
  refine sb (ok.same s1) e2 λH2 y f2 s2 r2 _=>?_
  exists h,o d1 d2,w,e,0;refine dd H2 x y d1 d2 f1 f2 w _ (r1.same s2) r2 h λH3 u s3 r3=>?_
  rw[h] at e;cases w<;>try (cases e;done)
  rename_i b';cases r3;refine⟨b',rfl,?_⟩;cases b' with
  |false=>
   cases e;rw[if_neg abz];exact k H3 _ [] ((s1.trans s2).trans s3) (.bl false) .nil
  |true=>
   rw[if_pos rfl];exists 70;exists h3,fc ρ,w3,e,0;obtain⟨d3,t3⟩:=w3;rw[h3] at e;exists 70;cases h4:o' d2 d3 with
   |none=>rw[h4] at e;cases e
   |some d4=>
    rw[h4] at e;cases e;refine sc (((ok.same s1).same s2).same s3) h3 λH4 w' f4 s4 r4 _=>?_
    exact jW H4 y w' d2 d3 f2 f4 d Q ((r2.same s3).same s4) r4 h4 λH5 v5 s5 r5=>k H5 v5 [] ((((s1.trans s2).trans s3).trans s4).trans s5) r5 .nil
 .cases e
theorem VT(ha:FP X a fa)(hb:FP X b fb)(hc:FP X c fc)(hm:lastMarks [.LtE,.LtE] [b,c]=false:=by with_unfolding_all rfl):FP X (.Compare a [.LtE,.LtE] [b,c] pos) (G0 oLe oLe fa fb fc):=ZC zU zU oA oA ha hb hc hm
def pN(neg:Bool):D->D->Option D:=λkd dd=>match dd with
 |.bP es=>(iA kd).map λk=>.bl (if neg=true then !(bB es k).isSome else(bB es k).isSome)
 |_=>none
def OO(neg:Bool):R2:=λy x H Q=>∃a o,x=.ref a/\h_ H a y o/\Q (.bl (if neg=true then !o.isSome else o.isSome)) H
theorem DJ{K:PySem.W.Frag}:gC K (OO neg) (pN neg):=by
 intro H y x d1 d2 f1 f2 d Q r1 r2 e k;cases r2 with
 | @bP a ak es fp h hk rs=>
  have e:((iA d1).map λk=>D.bl (if neg=true then !(bB es k).isSome else(bB es k).isSome))=some d:=e;exists y_,iA d1,key,e;cases e;have ek:=r1.key y_;subst ek;have ev:(eF ak key).isSome=(bB es key).isSome:=by
   obtain⟨h1,h2⟩:=qC hk rs;cases hv:bB es key with
   |none=>rw[h2 hv];rfl
   |some dv=>obtain⟨v,f,jR,_⟩:=h1 dv hv;rw[jR];rfl
  refine⟨a,eF ak key,rfl,h_.k h,?_⟩;rw[ev];exists 53
 |_=>cases e
theorem TL(hu:X.A.units+1<cLine)(ha:FP X a fa)(hb:FP X b fb)(hm:behindInMarks .In b=false:=by rfl):FP X (.Compare a [.In] [b] pos) (e2 (pN false) fa fb):=
 fp_2 DJ ha hb λta tb pa pb=>Ks (Pp hu pa pb) hm
theorem Rv(hu:X.A.units+1<cLine)(ha:FP X a fa)(hb:FP X b fb)(hm:behindInMarks .In b=false:=by rfl):FT X (.Compare a [.In] [b] pos) (tV (e2 (pN false) fa fb)):=by
 exists 51;exists 22,Tf (t:=uE (OO false) ta tb) (Pp hu pa pb) hm;obtain⟨tg,e0⟩:=DZ e;obtain⟨d1,t1,d2,t2,e1,jt,e3,rfl⟩:=nR e0;exists 85
 exists 54
 refine DJ H2 x y d1 d2 f1 f2 _ _ (r1.same s2) r2 e3 λH3 v s3 r3=>?_
 cases r3;exact⟨c,rfl,k H3 ((s1.trans s2).trans s3)⟩
def CH(i:Nat)(cn f:Str)(fv:EF):SF:=λρ=>match fv ρ,ρ[i]? with
 | some (d,_),some (some (.ins c es,.own))=>if c=cn then(match es.lookup f with
  |some (.lst ds)=>if(aC d&&aN ds&&decide (ds.length<sizeLine))=true then some (.nx (bT ρ i (.ins c (dR f (.lst (ds++[d])) es)))) else none
  |_=>none) else none
 |_,_=>none
theorem Af(i:Nat)(hC:ClsAt X.K cn C)(na:jr X.K C f)(hv:FP X a fv)(va:VA X i x:=by walk_at "va")(hs:Y2 X a:=by rfl)
  (hb:attributeBase (.Name x p) f X.env (eval (.Name x p) X.env)=eval (.Name x p) X.env:=by rfl)
  (lQ:attributeBase (.Attribute (.Name x p) f p1) "append" X.env (eval (.Attribute (.Name x p) f p1) X.env)=eval (.Attribute (.Name x p) f p1) X.env:=by rfl)
  (lG:((backTo p3 (starEach [a] X.env)).all (λx=>!x.1)&&(backToKw p3 (keywordEach [] X.env)).all (λx=>x.1.isSome)&&decide ([a].length+([]:List Keyword).length+(if([]:List Keyword).isEmpty then 0 else 1)<30))=true:=by rfl)
  (lU:(p2.endLine==p3.line)=true:=by rfl) (j7:swapsWith (.Call (.Attribute (.Attribute (.Name x p) f p1) "append" p2) [a] [] p3) none pos.line X.env=pure false:=by rfl) :
  eV X (.Expr (.Call (.Attribute (.Attribute (.Name x p) f p1) "append" p2) [a] [] p3) pos) (CH i cn f fv):=by
 obtain⟨tv,l5,sv⟩:=hv;exists 25,CG (yP PySem.F.plainAttrs_list PySem.F.slot_list_append PySem.F.type_list_append D6 (vV va.pe hb) (cP l5 eT hs) lQ lG lU hs rfl) j7;unfold CH at e
 split at e
 .rename_i d td c es g1 g2
  by_cases hc:c=cn
  .subst hc;rw[if_pos rfl] at e
   split at e
   .rename_i ds hl;obtain⟨hc,e⟩:=ci e;cases e;obtain⟨c1,c3⟩:=(abn _ _).mp hc;obtain⟨c1,c2⟩:=(abn _ _).mp c1;obtain⟨xv,fp,cN,r,zz⟩:=ok.sl i _ _ g2;refine⟨xv,cN,?_⟩;obtain⟨b0,dx,fs,u,gf,rfl,h1,h2,h3,h4,h5,h6⟩:=r.place hC.ns zz.1 hl;refine⟨b0,C,dx,fs,u,rfl,h1,hC.cl,na,h2,?_⟩;obtain⟨l,xs,f0,rfl,hq,_,_⟩:=h3.dY;refine⟨.inl ⟨rfl,_,hq⟩,?_⟩;refine sv ok g1 λH1 v fd s1 rv gv=>?_
    have hn:=rv.aC c1;subst hn;generalize hw:(V.ref l)=w at h3 h6;cases h3 with
    | @lst a' ys _ f' h rs=>
     cases hw;have hn:=rs.aC c2;subst hn;have JU:=s1 _ _ h;refine⟨_,ys,v,rfl,rfl,JU,by rw[<- rs.length];exact abd c3,?_⟩;have im:a_ H1 (upd H1 l (.lst (ys++[v]))):=a_.upd JU rfl;obtain⟨bR,k1,k2,k3⟩:=h6 (upd H1 l (.lst (ys++[v]))) (.lst (ds++[d])) [l] ((a_.of s1).trans im) (λc o n e=>by rw[aP λq=>n (by rw[q];exact aar)];exact s1 c o e)
      (.lst cB (aB.append ((rs.same s1).frame (λa m=>nomatch m) im) (aB.cons (rv.frame (λa m=>nomatch m) im) .nil))) h4 (λc m=>.inl m)
     obtain⟨z',aT⟩:=ok.put g2 cN zz ((a_.of s1).trans im) (λc o n e=>by rw[aP λq=>n (by rw[q];exact h5 l aar)];exact s1 c o e) k1 k2 k3;exact q z' σ _ aT (.refl _ _)
   .cases e
  .rw[if_neg hc] at e;cases e
 .cases e
end L2.Ev
namespace L2
open PySem PySem.Spec PyProof.Rows
def ae6:V->List V->Hp->VK->Prop:=λx vs H Q=>∃(l:Addr) (ns:List Int) (n:Int),x=.ref l/\vs=[.int n]/\H l=some (.lst (ns.map V.int))/\n∈ns/\Q .aA (upd H l (.lst ((ns.erase n).map V.int)))
noncomputable def Us(n:Int):Value->Bool
 |.int a _=>a==n
 |_=>false
theorem DV{ns:List Int}(r:aU (ns.map V.int) us)(h:m<us.length)(h2:m<ns.length):∃t,us[m]=.int ns[m] t:=by
 obtain⟨u,hu,ru⟩:=r.get (by rw[aco,abp h2];rfl);rw[abp h] at hu;obtain⟨t,rt⟩:=ru;exact⟨t,by rw[<- rt];exact ab1 hu⟩
theorem MS:∀{ns:List Int} {n} {m} (h:m<ns.idxOf n) (h2),ns[m]≠n
 |[],_,_,_,h2=>absurd h2 (Nat.not_lt_zero _)
 |a::ns,n,m,h,h2=>by
  rw[List.idxOf_cons] at h
  by_cases ha:(a==n)=true
  .rw[ha] at h;exact absurd h (Nat.not_lt_zero _)
  .have ha:(a==n)=false:=by simpa using ha
   rw[ha] at h;cases m with
   |zero=>exact ado.mp ha
   |succ m=>exact MS (Nat.lt_of_succ_lt_succ h) (Nat.lt_of_succ_lt_succ h2)
theorem af2{l:List α}:(l.map f).eraseIdx k=(l.eraseIdx k).map f:=by
 rw[List.eraseIdx_eq_take_drop_succ,List.eraseIdx_eq_take_drop_succ,ade,List.map_take,List.map_drop]
theorem Xr:OT X "list.remove" ae6:=by
 exists 43;obtain⟨l,ns,n,rfl,rfl,hH,hn,q⟩:=h;cases rx;obtain⟨u,rfl,ru⟩:=rv.one;obtain⟨t,rfl⟩:=ru;obtain⟨z,au,nn,r,hl,e⟩:=I.A3 hH;have hi:ns.idxOf n<ns.length:=List.idxOf_lt_length_of_mem hn;rw[List.length_map] at hl z;have hj:ns.idxOf n<au.toArray.size:=by rw[ab2];lia
 refine call_meets F.slot_list_remove ⟨_,e,rfl⟩ F.entry_list_remove (F.args_list_remove_2 _ _)
  (MeetsSeq.list_remove l au.toArray nn (.int n t) (Us n) (λy my=>?_) (ns.idxOf n) hj ?_ (λm hm h2=>?_) (by rw[ab2];lia)) ⟨e,?_⟩
 .obtain⟨m,hm,em⟩:=Array.mem_iff_getElem.mp my;rw[ab2] at hm;rw[List.getElem_toArray] at em;obtain⟨t',et⟩:=DV r hm (by lia);rw[<- em,et];exact MeetsSeq.EqGives.int _ _ _ _
 .rw[List.getElem_toArray];obtain⟨t',et⟩:=DV r (by lia) hi;rw[et];rw[List.getElem_idxOf hi];exact afl n
 .rw[List.getElem_toArray];rw[ab2] at hm;obtain⟨t',et⟩:=DV r hm (by lia);rw[et];exact ado.mpr (MS h2 (by lia))
 .refine⟨.aA,_,I.NK (its':=au.eraseIdx (ns.idxOf n)) hH e ?_ ?_ ?_,rfl,q⟩
  .show au.toArray.eraseIdxIfInBounds _=(au.eraseIdx _).toArray;rw[List.eraseIdxIfInBounds_toArray]
  .rw[List.erase_eq_eraseIdx_of_idxOf rfl,<- af2];exact r.eraseIdx _
  .rw[List.length_map];have:=List.length_erase_le (a:=n) (l:=ns)
   lia
end L2
namespace L2.Ev
open PySem PySem.Spec PyProof.Rows
noncomputable def Cr(env:Env):Str×NameKind->Str×NameKind:=λ(n,k)=>if(k==NameKind.free&&env.scope.kind == .function&&env.kindOf n==some .cell) then(n,NameKind.cell) else(n,k)
theorem Lu:∀{names:List (Str×NameKind)} {x},(names.lookup x=some .cell\/names.lookup x=some .free)->(names.map (Cr env)).lookup x=some .cell\/(names.map (Cr env)).lookup x=some .free
 |[],_,h=>by simp at h
 |(n,k)::r,x,h=>by
  rw[aas];have e:Cr env (n,k)=(n,.cell)\/Cr env (n,k)=(n,k):=by
   show(if(k==NameKind.free&&env.scope.kind == .function&&env.kindOf n==some .cell)=true then(n,NameKind.cell) else(n,k))=_\/(if(k==NameKind.free&&env.scope.kind == .function&&env.kindOf n==some .cell)=true then(n,NameKind.cell) else(n,k))=_
   split
   .exact .inl rfl
   .exact .inr rfl
  cases hx:x==n with
  |true=>
   simp only[aet,hx] at h;rcases e with e|e<;>rw[e]<;>simp only[aet,hx]
   .exact .inl trivial
   .exact h
  |false=>
   simp only[aet,hx] at h;have ih:=Lu (env:=env) h;rcases e with e|e<;>rw[e]<;>simp only[aet,hx]<;>exact ih
theorem ad4(h:yN M0 Oj sc M js=true):nS (fC X M0 Oj s3 H3 fp) M js sc:=by
 unfold yN at h;obtain⟨h,a6⟩:=(abn _ _).mp h;obtain⟨h,a5⟩:=(abn _ _).mp h;obtain⟨h,a4⟩:=(abn _ _).mp h;obtain⟨h,a3⟩:=(abn _ _).mp h;obtain⟨a1,a2⟩:=(abn _ _).mp h;refine⟨?_,λy hy=>?_,λy hy hl=>?_,a4,λx hx=>?_,abd a6⟩
 .cases hk:sc.kind<;>rw[hk] at a1<;>first|rfl|exact absurd a1 (by decide)
 .have:=ada.mp a2 y hy;intro z;rw[z] at this;exists 88
 .have:=ada.mp a3 y hy;rw[hl] at this;have this:=this;cases q:sc.names.lookup y.1 with
  |none=>rw[q] at this;exists 88
  |some k=>rw[q] at this;cases k<;>first|rfl|exact absurd this (by decide)
 .have:=ada.mp a5 x hx;refine Lu ?_;cases q:Oj.names.lookup x with
  |none=>rw[q] at this;exists 88
  |some k=>rw[q] at this;cases k<;>first|exact .inl rfl|exact .inr rfl|exact absurd this (by decide)
def wH(i:Nat)(fv:EF):SF:=λρ=>match fv ρ,ρ[i]? with
 |some (.int n,_),some (some (.lst ds,.own))=>match d_ ds with
  |some ns=>if n∈ns then some (.nx (bT ρ i (.lst ((ns.erase n).map D.int)))) else none
  |none=>none
 |_,_=>none
theorem RS:∀{ds} {ns},d_ ds=some ns->ds=ns.map D.int
 |[],_,e=>by cases e;rfl
 |d::ds,ns,e=>by
  cases d<;>try (cases e;done)
  rename_i i;unfold d_ at e;exists h,d_ ds,r,e;cases e;rw[RS h];rfl
theorem ad3(i:Nat)(hv:FP X a fv)(va:VA X i x:=by walk_at "va")(hs:Y2 X a:=by rfl)
  (lQ:attributeBase (.Name x p1) "remove" X.env (eval (.Name x p1) X.env)=eval (.Name x p1) X.env:=by rfl)
  (lG:((backTo p3 (starEach [a] X.env)).all (λx=>!x.1)&&(backToKw p3 (keywordEach [] X.env)).all (λx=>x.1.isSome)&&decide ([a].length+([]:List Keyword).length+(if([]:List Keyword).isEmpty then 0 else 1)<30))=true:=by rfl)
  (lU:(p2.endLine==p3.line)=true:=by rfl) (j7:swapsWith (.Call (.Attribute (.Name x p1) "remove" p2) [a] [] p3) none pos.line X.env=pure false:=by rfl) :
  eV X (.Expr (.Call (.Attribute (.Name x p1) "remove" p2) [a] [] p3) pos) (wH i fv):=by
 obtain⟨tv,l5,sv⟩:=hv;exists 25,CG (yP PySem.F.plainAttrs_list PySem.F.slot_list_remove PySem.F.type_list_remove Xr va.pe (cP l5 eT hs) lQ lG lU hs rfl) j7;unfold wH at e
 split at e
 .rename_i n td ds g1 g2;exists hI,d_ ds,ns,e;exists 70;obtain⟨hc,e⟩:=ci e;cases e;have:=RS hI;subst this;obtain⟨xv,fp,cN,r,zz⟩:=ok.sl i _ _ g2;refine⟨xv,cN,?_⟩;obtain⟨l,xs,f,rfl,hq,_,_⟩:=r.dY;refine⟨.inl ⟨rfl,_,hq⟩,?_⟩;refine sv ok g1 λH1 v fd s1 rv gv=>?_
  cases rv;have r':=r.same s1;have bG:=ok.same s1;generalize hw:(V.ref l)=w at r' cN;cases r' with
  | @lst a' ys _ f' h rs=>
   cases hw;have ey:=rq rs hI;subst ey;have hn:=rs.aC (eO ns);subst hn;refine⟨_,ns,n,rfl,rfl,h,hc,?_⟩;have im:a_ H1 (upd H1 l (.lst ((ns.erase n).map V.int))):=a_.upd h rfl;exact q z σ _ (Ok.IS bG g2 cN zz aar h rfl (.lst cB (wN _))) (.refl _ _)
 .cases e
def lZ(fa fh:EF):EF:=λρ=>match fa ρ,fh ρ with
 |some (.lst ds,_),some (.int i,_)=>if aN ds=true then some (.lst (cutD ds none (some i)),.own) else none
 |_,_=>none
theorem zT(ha:FP X a fa)(hh:FP X b fh):FP X (.Subscript a (.Slice none (some b) none p2) pos) (lZ fa fh):=by
 exists 69;obtain⟨th,ph,qh⟩:=hh;exists 21,Eu DE p Iz (JI ph);unfold lZ at e
 split at e
 .rename_i ds t1 i t2 e1 e2;exists 84;cases e;refine q ok e1 λH1 x f1 s1 r1 _=>?_
  refine qh (ok.same s1) e2 λH2 y f2 s2 r2 _=>?_
  cases r2;refine⟨i,rfl,?_⟩;obtain⟨w,xs,f,rfl,hq,rs,_⟩:=(r1.same s2).dY;have hn:=rs.aC hi;subst hn;refine⟨w,xs,rfl,hq,λp hp=>?_⟩;have s3:aH H2 (upd H2 p (.lst (kX xs none (some i)))):=λb o e=>by rw[aP (cV e hp)];exact e
  have rr:aB X.K H2 (cutD ds none (some i)) (kX xs none (some i)) []:=by
   unfold cutD kX;rw[rs.length];exact aB.BL _ (aB.AY _ rs)
  exists 60;cases aa3.mp m;exact s1.free (s2.free hp)
 .cases e
theorem Zr(h:l.Nodup):(dQ l).Pairwise (· < ·):=by
 have n:=(tQ l).nodup_iff.mpr h;exact(List.Pairwise.and (CL l) n).imp λ⟨a,b⟩=>Int.lt_iff_le_and_ne.mpr ⟨a,b⟩
end L2.Ev
namespace L2
open PySem PySem.Spec PyProof.Rows
theorem Ze(I:Inv X af σ H s)(hN:X.N.Nodup)(hi:X.N[i]? = some n)(hk:X.env.scope.names.lookup n=some .local)
  (h:∀s',Inv X af (σ.set i none) H s'->Q () s'):wpAny M A (do bindName X.env n .none;unbindBehindTheSuite X.env n pos) Q E s:=by
 obtain⟨m,hn,hl⟩:=id I.loc;have wW:(X.env.scope.kind == .class||(X.env.scope.kind == .module&&X.env.locals != X.env.globals))=false:=by rw[I.ok.kind];rfl
 have jV:=I.jV;have lo:∀{b} {o},X.cG.heap.get? b=some o->b≠X.env.locals:=λ{b o} e=>acI (acU (abM e) I.ok.above)
 refine wpAny_nameGoes_keeps hk hn wW λh' v HK hs=>?_
 refine h _ ⟨I.ok,I.os,I.bare,⟨λb o e n hb hx=>(hs.2 b (lo e)).trans (I.base.keep b o e n hb hx),λb o e n hb hx=>?_,I.base.free,λb o e hx=>?_,I.base.jl,I.base.jo,I.base.ko⟩,⟨_,HK,λj y v' e1 e2 e3=>?_⟩,λy c e=>?_,I.free,I.gS,λp hp=>?_,
  I.aE.tracked λb u o hb q=>(hs.2 b λz=>by rw[z,I.free] at hb;cases hb).trans q,by simpa using I.len,I.hq⟩
 .exists 75;exact⟨sl,(hs.2 b (lo e)).trans e1⟩
 .exists 67;exact⟨o',(hs.2 b (lo e)).trans e1⟩
 .have hj:j≠i:=λz=>by
   subst z;have cU:j<σ.length:=by rw[I.len];exact(abL.mp hi).1
   rw[aer cU] at e2;cases e2
  rw[acO (afr hj)] at e2;obtain⟨u',r',q⟩:=hl j y v' e1 e2 e3;refine⟨u',r',?_⟩;rcases q with⟨k,e⟩|⟨k,c,e,z⟩
  .refine .inl ⟨k,?_⟩;have:y≠n:=λe=>hj (DF hN e1 (e ▸ hi))
   exact(if_neg this).trans e
  .exact .inr ⟨k,c,e,z.sameBut hs (jV y c e)⟩
 .obtain⟨w',z⟩:=I.cell y c e;exact⟨w',z.sameBut hs (jV y c e)⟩
 .exists 87;exact⟨(hs.2 p.1 ne).trans e,n,ne,nf,d⟩
def w_(K:PySem.W.Frag)(C D:Addr):Prop:=∃nm q N bs bm hdct sn sub ab col dd k0 k1 k2 k3 k5 newId,K.lookup C=some (excClassObj nm q C N bs bm hdct sn sub ab col dd k0 k1 k2 k3 k5 newId)/\
 ∃zF q' N' wV p_ zH yj xw wM yM jW j0 j1 j2 j3 j5 x6,K.lookup D=some (excClassObj zF q' D N' wV p_ zH yj xw wM yM jW j0 j1 j2 j3 j5 x6)/\p_.contains (.type "BaseException")=true/\(Value.ref C::bm).contains (.ref D)=true
theorem YR(L:gk X af σ H a (.ref C) aQ s)(cat:w_ X.K C D)(hg:Gl X x)(hm:X.mg x=some (.ref D))(k:R (.ok .brk) s)(f7:(x==("__debug__":Str))=false:=by decide):
  codeAny (model X.prog X.w) (X.A.mark (some (.ref a))) (.handlers (.ref a) [.ExceptHandler (some (.Name x px)) none [] pos] X.env) R s:=by
 obtain⟨nm,q,N,bs,bm,hdct,sn,sub,ab,col,dd,k0,k1,k2,k3,k5,newId,hC,zF,q',N',wV,p_,zH,yj,xw,wM,yM,jW,j0,j1,j2,j3,j5,x6,hD,hb,hc⟩:=cat;have I:=L.known.choose_spec.2.nF a L.known.choose_spec.1.hq;have KI:=L.inv.c8;obtain⟨oe,vs,a0,T,oT,ts,h1,h2,_⟩:=L.ob;refine codeAny_handlers_test (tK I hg hm ?_ f7);obtain⟨hh,g,d,t,os⟩:=s;refine Wz (KI _ _ hC) (KI _ _ hD) h1 h2 hb ?_;rw[hc];exact k
theorem abC(L:gk X af σ H a (.ref C) aQ s)(hc:X.calm=true)(hx:X.ex=[])(cX:X.stack=X.env::X.outer)(hf:X.env.frame=some X.env.locals)(cat:w_ X.K C D)(hg:Gl X x)(hm:X.mg x=some (.ref D))
  (hN:X.N.Nodup) (hi:X.N[i]? = some n) (hk:X.env.scope.names.lookup n=some .local)
  (h:∀s5 H5,rC H H5 a (.ref C) aQ->Inv (X.nF a) af (σ.set i (some (.ref a))) H5 s5->
   wpAny (model X.prog X.w) (X.A.mark (some (.ref a))) (execs (b0::Gk) X.env) (SP (X.nF a) af { nx:=λσ H=>W.nx (σ.set i none) H,rt:=W.rt,bk:=λσ H=>W.bk (σ.set i none) H,ct:=λσ H=>W.ct (σ.set i none) H }) (λ_ _=>False) s5)
  (f7:(x==("__debug__":Str))=false:=by decide) :
  Y1 X X.A (noteFrame (.ref a) X.env) (λ_ s2=>Y1 X X.A (setFlight (.ref a) none) (λ_ s3=>Y1 X X.A (handleBy (.ref a) X.env [.ExceptHandler (some (.Name x px)) (some n) (b0::Gk) pos]) (SP X af W) X.xe s3) X.xe s2) X.xe s:=by
 refine L.agb hx cX hf λs3 L3=>wpAny_handleBy_cons (YR L3 cat hg hm ?_ f7) (λz=>nomatch z)
 refine codeAny_handlers_suite_as (L3.again hx λs4 L4=>?_);obtain⟨H5,kn,I4⟩:=L4.known;have I4:=I4.nF a kn.hq;refine z8 (X:=X.nF a) I4 hN hi (.inl hk) (show RelV (V.ref a) (Value.ref a) from rfl) (λs5 I5=>?_) (.inr hk);refine adU (h s5 H5 kn I5) (λf s6 q=>?_) λ_ _ z=>False.elim z
 have fin:∀{jg} {H6}{Z:Shared->Prop},Inv (X.nF a) af jg H6 s6->(∀s7,Inv X af (jg.set i none) H6 s7->Z s7)->Y1 X X.A (do bindName X.env n .none;unbindBehindTheSuite X.env n pos) (λ_ s7=>Z s7) X.xe s6:=λ{jg H6 Z} I6 k=>
  Ze (L4.inv.abH hc I6) hN hi hk k
 cases f with
 |next=>obtain⟨jg,H6,I6,q6⟩:=q;exact fin I6 λs7 I7=>⟨_,H6,I7,q6⟩
 |brk=>obtain⟨jg,H6,I6,q6⟩:=q;exact fin I6 λs7 I7=>⟨_,H6,I7,q6⟩
 |cont=>obtain⟨jg,H6,I6,q6⟩:=q;exact fin I6 λs7 I7=>⟨_,H6,I7,q6⟩
 |ret u=>obtain⟨v,jg,H6,I6,r6,q6⟩:=q;exact fin I6 λs7 I7=>⟨v,_,H6,I7,r6,q6⟩
open PySem PySem.Spec PySem.W PySem.Calls PyProof.Rows Builtin Builtin.ObjectAttr Builtin.Getset_descriptor
structure oV(K:Frag)(C:Addr):Prop where
 ga:findIn K (.ref C) "__getattribute__"=some (some (.builtin "BaseException.__getattribute__"))
 gh:findIn K (.ref C) "__getattr__"=some none
 at_:findIn K (.ref C) "__class__"=some (some (.builtin "object.__class__"))
 get:specialIn K (.builtin "object.__class__") "__get__"=some (some (.builtin "getset_descriptor.__get__"))
 tk:takesIn K (.builtin "object.__class__")=some true
 mo:mroIn K C (.type "object")=some true
 mb:mroIn K C (.type "BaseException")=some true
 cl:(clsIn K C).isSome=true
section
variable{s:Shared}{K:Frag}
theorem XH(X:K.In s.heap)(hx:s.heap.get? x=some ox)(hc:ox.cls=.ref C)(hm:mroIn K C (.type "object")=some true)
  (h:R (.ok (.ret (.ref C))) s):codeAny (model prog w) A (.call (.builtin "getset_descriptor.__get__") ⟨[.builtin "object.__class__",.ref x,tp],[]⟩) R s:=by
 obtain⟨hh,g,dr,t,os⟩:=s;exists 56;have L1:=looks_mroIn (M:=model prog w) X hm;refine codeAny_call_builtin KF.slot_gs.plain KF.entry_gs (KF.slot_gs.check _ _ _ _ _ _ _ _ KF.type_class (KF.args_gs _ _ _) ?_);unfold Builtin.«getset_descriptor.__get__» descrGet;rw[dga_obj];refine aa7 (acD ?_);unfold descrGetter descrCheckInstance descrNameAndClass isInstance;simp only[KF.owner_class]
 repeat lk
 refine⟨Code.quiet_builtin _ (by decide +kernel),agm KF.entry_class ?_⟩;unfold Builtin.«object.__class__» shownTypeOf
 repeat lk
 exact h
theorem Zl(X:K.In s.heap)(k:oV K C):Looks (model prog w) s.heap (find (.ref x) (.ref C) "__class__") (.bind (.builtin "getset_descriptor.__get__") (.builtin "object.__class__")):=by
 have L1:=looks_findIn (M:=model prog w) X k.at_;have L2:Looks (model prog w) s.heap (getOf (some (.builtin "object.__class__"))) (some (.builtin "getset_descriptor.__get__")):=looks_specialIn X k.get;have L3:=looks_takesIn (M:=model prog w) X k.tk;exact L1.andThen (L2.andThen ((show Looks (model prog w) s.heap (dataDescriptor? (some (.builtin "object.__class__")) (some (.builtin "getset_descriptor.__get__"))) (some (.builtin "getset_descriptor.__get__",.builtin "object.__class__")) from L3.andThen .now).andThen (Looks.tag .now)))
theorem afo(X:K.In s.heap)(k:oV K C)(hx:s.heap.get? x=some ox)(hc:ox.cls=.ref C)(hq:Q () s):wpAny M A (checkBuiltinCall "BaseException.__getattribute__" ⟨[.ref x,Ub],[]⟩) Q E s:=by
 obtain⟨hh,g,dr,t,os⟩:=s;have hk:builtinKind "BaseException.__getattribute__"=some .slot:=by decide +kernel
 have Zi:splitId "BaseException.__getattribute__"=some ("BaseException","__getattribute__"):=by decide +kernel
 have L0:Looks M hh (typeOf (.ref x)) (.ref C):=hc ▸ (Looks.ld hx).andThen .now;have L1:=looks_mroIn (M:=M) X k.mb;have LI:Looks M hh (isInstance (.ref x) (.type "BaseException")) true:=L0.andThen L1;have ha:=F.args_bexc_ga (.ref x) Ub;simp only[checkBuiltinCall,hk,Zi];refine aa7 (LI.at ?_)
 repeat (first|assumption|wp_step)
theorem acQ(X:K.In s.heap)(k:oV K C)(hx:s.heap.get? x=some ox)(hc:ox.cls=.ref C)(hq:Q (.done (.ret (.ref C))) s):
  wpAny (model prog w) A (Builtin.«object.__getattribute__» ⟨[.ref x,.str "__class__" tk],[]⟩) Q E s:=by
 obtain⟨hh,g,dr,t,os⟩:=s;exists 56;have L1:=Zl (prog:=prog) (w:=w) (x:=x) X k;refine aa7 (acD (aa7 (acD (aa7 (L0.at (aa7 (L1.at ?_)))))));exact aa7 (afp (wpAny_call (XH X hx hc k.mo (acD hq))))
theorem Xi(X:K.In s.heap)(k:oV K C)(hx:s.heap.get? x=some ox)(hc:ox.cls=.ref C)(h:Q (some (.ref C)) { s with toks:=s.toks+1 }):wpAny (model prog w) A (getAttr? (.ref x) "__class__") Q E s:=by
 obtain⟨hh,g,dr,t,os⟩:=s;exists 56;have L1:=looks_findIn (M:=model prog w) X k.ga;have L2:=looks_findIn (M:=model prog w) X k.gh;have f3:=F.attr_ValueError.ga.bind (.ref x);have Z4:(false&&onTheHeap (Value.builtin "BaseException.__getattribute__"))=false:=rfl;have yS:(Value.builtin "BaseException.__getattribute__" == Value.builtin "object.__getattribute__")=false:=by decide +kernel
 have Ur:(onTheHeap (Value.ref C)&&Value.builtin "BaseException.__getattribute__" == Value.builtin "object.__getattribute__")=false:=by rw[yS];rfl
 unfold getAttr? getAttrBy? getAttrBy;refine aa7 (wpAny_mkText (aa7 (wpAny_attempt (afp (aa7 (L0.at (aa7 (L1.at ?_))))))));dsimp only;rw[if_neg (by rw[Ur];decide)];unfold getAttrByItsOwn hookBefore;refine aa7 ?_;rw[if_pos (show onTheHeap (Value.ref C)=true from rfl)];refine L2.at ?_;refine aa7 (wpAny_attempt (afp ?_));unfold callGetattribute;rw[if_neg (by rw[Z4];decide)];unfold boundAndCalled;rw[f3];refine aa7 (acD (wpAny_call ?_));refine codeAny_call_builtin F.attr_ValueError.ga.plain F.entry_bexc_ga (afo X k hx hc (acQ X k hx hc ?_));exact acD (acD h)
end
theorem aaj{K:Frag}(k:oV K C):KitX K (.ref x) (.ref C) (λh=>∃o,h.get? x=some o/\o.cls=.ref C) where
 ty:=λ_ _ _ ⟨o,h1,h2⟩=>h2 ▸ (Looks.ld h1).andThen .now
 it:=λ_ _ X _=>by
  obtain⟨cd,g7⟩:=agt.mp k.cl;unfold clsIn at g7
  split at g7
  .rename_i c' d' cd' qB ho;intro A' Q' E' s' k q;unfold isType loadHead;exact aa7 (wpAny_loadPart (k _ _ (X _ _ ho)) (acD q))
  .cases g7
 ne:=λh tp dd au n sl X htp=>by
  obtain⟨cd,g7⟩:=agt.mp k.cl;refine agd.mpr λq=>?_
  have e:=Value.ref.inj (afJ.mp q);subst e;unfold clsIn at g7
  split at g7
  .rename_i c' d' cd' qB ho;have z:=(X _ _ ho).symm.trans htp;cases z
  .cases g7
 ca:=λX ⟨o,h1,h2⟩ q=>Xi X k h1 h2 q
theorem WL:fX X (.builtin "isinstance") (λxs H Q=>∃a C c cv b de ob,xs=[V.ref a,c]/\(∀u,RelV c u->u=cv)/\H a=some (yF ob a (.ref C) de)/\oV X.K C/\kitOne X.K (.ref C) cv=some b/\Q (.bl b) H):=by
 exists 45;obtain⟨a,C,c,cv,bb,de,ob,rfl,hc,ha,k,e,q⟩:=h;obtain⟨u,w',rfl,ru,eW⟩:=vals2 r;obtain rfl:=hc w' eW;cases(show u=Value.ref a from ru);exact kia_one (aaj k) I.c8 (Vt I.aE ha) e (λz=>nomatch z) λtk=>⟨.bl bb,H,I.tok tk,rfl,q⟩
theorem afd(hg:Gl X x)(hm:X.mg x=some (.ref C))(f7:(x==("__debug__":Str))=false:=by decide):PE X (.Name x pos) (λ_ H Q=>Q (.ref C) H):=λaf s σ H Q I h=>tK I hg hm ⟨V.ref C,H,I,(rfl:Value.ref C=Value.ref C),h⟩ f7
end L2
namespace L2.Ev
open PySem PySem.Spec PyProof.Rows
def wk(X:Cx)(st:Stmt):TS:=λW σ H=>∀(af) (s),Inv X af σ H s->Y1 X X.A (exec st X.env) (SP X af W) X.xe s
theorem Bm{st:Stmt}:PS X st (wk X st):=λaf s _ _ _ I h=>h af s I
noncomputable def Nq(cn:Str)(g:AF):SF:=λρ=>match g ρ with
 |some _=>some (.er true (cn,none) ρ)
 |none=>none
theorem YM(hc:X.calm=true)(cl:Cc X.K C)(hn:PySem.W.nsIn X.K mainGlobals cn=some (some (.ref C)))(hm:X.mg x=some (.ref C))(ha:FA X (e::es) g)(hl:(e::es).length<=1000:=by decide)(hx:X.ex=[]:=by rfl)(hg:GD X x:=by exact⟨rfl,by decide⟩)
  (he:SE X e es fP:=by exact⟨rfl,rfl⟩):eV X (.Raise (some (.Call (.Name x np) (e::es) [] fP)) none pos) (Nq cn g):=by
 obtain⟨t,pa,hz,qa⟩:=ha;refine⟨_,Bm,@λH0 S z aq ρ σ H E o ok e0 k=>?_⟩;unfold Nq at e0;cases h1:g ρ with
 |none=>rw[h1] at e0;cases e0
 |some qs=>
  rw[h1] at e0;cases e0;obtain⟨ES,th,kk⟩:=k;intro af s I;refine S1 hc hx th cl hg.1 hm pa hg.2 he.1 he.2 af s σ H E I ?_;refine qa ok h1 λH1 vs fp s1 r1 _=>⟨?_,kk z σ H1 C (ok.same s1) (.refl _ _) hn⟩
  rw[<- r1.length,List.length_map,hz ρ qs h1];exact afk (wg hl)
inductive ER where
 |ok (d:D) (ρ:aO)|er (cn:XN) (ρ:aO)
def WR(X:Cx)(H0:Hp)(S:List Addr)(aq:List qS)(σ:St)(Q:VK)(E:XK):ER->Prop
 |.ok d ρ=>∀z H1 H' v fp,Ok X.K H0 S z aq ρ σ H1->aH H1 H'->Rep X.K H' d v fp->cI z H1 .own fp->Q v H'
 |.er cn ρ=>∀z H' C,Ok X.K H0 S z aq ρ σ H'->PySem.W.nsIn X.K mainGlobals cn.1=some (some (.ref C))->E (.ref C) cn.2 H'
abbrev XR:=aO->Option ER
def FE(X:Cx)(e:Expr)(f:XR):Prop:=∃t,PX X e t/\∀{H0} {S} {z} {aq} {ρ} {σ} {H} {Q} {E} {r},
 Ok X.K H0 S z aq ρ σ H->f ρ=some r->WR X H0 S aq σ Q E r->t σ H Q E
theorem Oc:rJ X (λ_ _ _ _=>False):=λ_ _ _ _ _ _ _ _ z=>z.elim
def yo(i:Nat)(f:XR):SF:=λρ=>match f ρ with
 |some (.ok d ρ')=>some (.nx (iB ρ' i d .own))
 |some (.er cn ρ')=>some (.er false cn ρ')
 |none=>none
noncomputable def BB(f:XR):SF:=λρ=>match f ρ with
 |some (.ok d ρ')=>some (.nx ρ')
 |some (.er cn ρ')=>some (.er false cn ρ')
 |none=>none
theorem Jo(i:Nat)(he:FE X e f)(hN:X.N.Nodup)(hi:X.N[i]? = some x:=by rfl)(hx:Loc X.env.scope x:=by first|exact Or.inl rfl|exact Or.inr rfl)
  (hs:swapsWith e (some (.Name x pos')) pos.line X.env=pure false:=by rfl) (hf:v6 X x:=by first|exact .inl rfl|exact .inr rfl) (k7:kK X x=false:=by rfl):eV X (.Assign [.Name x pos'] e pos) (yo i f):=by
 obtain⟨t,p,q⟩:=he;exists 23,Bm;unfold yo at e;cases h:f ρ with
 |none=>rw[h] at e;cases e
 |some r=>
  rw[h] at e;intro af s I;cases r with
  |ok d aS=>
   cases e;refine Lp Oc hN hi hx p hs hf af s σ H E I ?_;exact q ok h λz1 H1 H2 v fp bG s1 r1 g1=>bG.stored s1 r1 g1 λz' aT=>k z' _ H2 aT (.set hi k7)
  |er cn aS=>
   cases e;obtain⟨ES,th,kk⟩:=k;refine Lp th hN hi hx p hs hf af s σ H E I ?_;exact q ok h λz1 H1 C bG hC=>kk z1 σ H1 C bG (.refl _ _) hC
theorem T8(he:FE X e f)(hs:swapsWith e none pos.line X.env=pure false:=by rfl):eV X (.Expr e pos) (BB f):=by
 obtain⟨t,p,q⟩:=he;exists 23,Bm;unfold BB at e;cases h:f ρ with
 |none=>rw[h] at e;cases e
 |some r=>
  rw[h] at e;intro af s I;cases r with
  |ok d aS=>
   cases e;refine PU Oc p hs af s σ H E I ?_;exact q ok h λz1 H1 H2 v fp bG s1 r1 g1=>k z1 σ H2 (bG.same s1) (.refl _ _)
  |er cn aS=>
   cases e;obtain⟨ES,th,kk⟩:=k;refine PU th p hs af s σ H E I ?_;exact q ok h λz1 H1 C bG hC=>kk z1 σ H1 C bG (.refl _ _) hC
noncomputable def Jb(i:Nat)(sub:Str->Bool)(f g:SF):SF:=λρ=>match f ρ with
 | some (.er false cn ρ')=>if sub cn.1=true then(match g (ρ'.set i (some (.exc cn,.own))) with
  |some (.nx bh)=>some (.nx (bh.set i none))
  |some (.bk bh)=>some (.bk (bh.set i none))
  |some (.ct bh)=>some (.ct (bh.set i none))
  |some (.rt d)=>some (.rt d)
  |_=>none) else none
 |some (.er true _ _)=>none
 |o=>o
theorem Wr{K:PySem.W.Frag}(hC:PySem.W.nsIn K mainGlobals cn.1=some (some (.ref C)))(k:rC H H' a (.ref C) cn.2):Rep K H' (.exc cn) (.ref a) []:=by
 obtain⟨c,aQ⟩:=cn;obtain⟨ob,vs,_,_,k⟩:=k;cases aQ with
 |none=>cases k;exact .exc hC cB λ_ e=>by cases e
 |some n=>obtain⟨dx,ne,_,rfl⟩:=k;exact .exc hC cB λm e=>by cases e;exact⟨dx,rfl,by rw[aP ne,cB]⟩
theorem Ok.unset{K:PySem.W.Frag}(ok:Ok K H0 S z aq ρ σ H)(i:Nat):Ok K H0 S z aq (ρ.set i none) (σ.set i none) H:=by
 have at_:∀{j} {w},(ρ.set i none)[j]? = some (some w)->j≠i/\ρ[j]? = some (some w):=λ{j w} e=>by
  have hj:j≠i:=λq=>by
   subst q
   by_cases hl:j<ρ.length
   .rw[aer hl] at e;cases e
   .rw[List.getElem?_eq_none (by rw[agq];exact Nat.le_of_not_lt hl)] at e;cases e
  exact⟨hj,by rw[acO (afr hj)] at e;exact e⟩
 refine⟨λj d t e=>?_,λp m=>?_,ok.zd,ok.en,by rw[agq,agq];exact ok.ln⟩
 .obtain⟨hj,e⟩:=at_ e;obtain⟨v,fp,a,b,c⟩:=ok.sl j d t e;exact⟨v,fp,by rw[acO (afr hj)];exact a,b,c⟩
 .obtain⟨r,h⟩:=ok.hl p m;exact⟨r,λa ha j q=>let⟨h1,h2⟩:=h a ha j q;⟨h1,λd e=>h2 d (at_ e).2⟩⟩
theorem Zx(q:SP (X.kr af R) [] E fl s):SP X af E fl s:=by
 cases fl with
 |next=>obtain⟨az,H',I,q⟩:=q;exact⟨az,H',I.n_,q⟩
 |brk=>obtain⟨az,H',I,q⟩:=q;exact⟨az,H',I.n_,q⟩
 |cont=>obtain⟨az,H',I,q⟩:=q;exact⟨az,H',I.n_,q⟩
 |ret u=>obtain⟨v,az,H',I,r,q⟩:=q;exact⟨v,az,H',I.n_,r,q⟩
theorem VC(hb:∀af R,FS (X.kr af R) body f)(I:Inv X af σ H s)(ok:Ok X.K H0 S z aq ρ σ H)(hf:f ρ=some o1)
  (k:match o1 with
   |.er true _ _=>False
   |.er false cn ρ'=>∀z' az H' C a s',Ok X.K H0 S z' aq ρ' az H'->Kp X σ az->PySem.W.nsIn X.K mainGlobals cn.1=some (some (.ref C))->gk X af az H' a (.ref C) cn.2 s'->
    Y1 X X.A (noteFrame (.ref a) X.env) (λ_ s2=>Y1 X X.A (setFlight (.ref a) none) (λ_ s3=>Y1 X X.A (handleBy (.ref a) X.env [h0]) (SP X af E) X.xe s3) X.xe s2) X.xe s'
   |o=>mP X H0 S aq σ E o) :
  Y1 X X.A (exec (.Try body [h0] [] [] pos) X.env) (SP X af E) X.xe s:=by
 refine wpAny_Try_except ?_;obtain⟨tb,pb,sb⟩:=hb af (λcls aQ az H'=>∀a s',gk X af az H' a cls aQ s'->
    Y1 X X.A (noteFrame (.ref a) X.env) (λ_ s2=>Y1 X X.A (setFlight (.ref a) none) (λ_ s3=>Y1 X X.A (handleBy (.ref a) X.env [h0]) (SP X af E) X.xe s3) X.xe s2) X.xe s')
 have yg:tb E σ H:=by
  refine sb ok hf ?_;cases o1 with
  |nx ρ'=>exact k
  |rt d=>exact k
  |bk ρ'=>exact k
  |ct ρ'=>exact k
  |er raw cn ρ'=>
   cases raw with
   |true=>exact False.elim k
   |false=>exact⟨_,abm,λz' az H' C aT kp hC a s' L=>k z' az H' C a s' aT kp hC L⟩
 refine adU (pb [] s σ H E I.kr yg) (λfl s1 q=>?_) (λev s1 q=>?_)
 .have q':=Zx q;cases fl with
  |next=>exact ahc q'
  |brk=>exact q'
  |cont=>exact q'
  |ret u=>exact q'
 .obtain⟨az,H',a,cls,aQ,rfl,L,r⟩:=q;exact r a s1 L
theorem Xw(i:Nat)(hb:∀af R,FS (X.kr af R) body f)(hs:∀a,FS (X.nF a) (b0::Gk) g)(SS:∀cn C,sub cn=true->PySem.W.nsIn X.K mainGlobals cn=some (some (.ref C))->w_ X.K C Dc)(hm:X.mg x=some (.ref Dc))(hN:X.N.Nodup)
  (hcm:X.calm=true:=by rfl) (hx:X.ex=[]:=by rfl) (cX:X.stack=X.env::X.outer:=by rfl) (oN:X.env.frame=some X.env.locals:=by rfl) (hg:Gl X x:=by rfl) (hi:X.N[i]? = some n:=by rfl) (hk:X.env.scope.names.lookup n=some .local:=by rfl) (k7:kK X n=false:=by rfl) (f7:(x==("__debug__":Str))=false:=by decide) :
  eV X (.Try body [.ExceptHandler (some (.Name x px)) (some n) (b0::Gk) agN] [] [] pos) (Jb i sub f g):=by
 exists 23,Bm;intro af s I;unfold Jb at e;cases hf:f ρ with
 |none=>rw[hf] at e;cases e
 |some o1=>
  rw[hf] at e;refine VC hb I ok hf ?_;cases o1 with
  |nx ρ'=>cases e;exact k
  |rt d=>cases e;exact k
  |bk ρ'=>cases e;exact k
  |ct ρ'=>cases e;exact k
  |er raw cn ρ'=>
   cases raw with
   |true=>cases e
   |false=>
    dsimp only at e ⊢
    by_cases Dg:sub cn.1=true
    .rw[if_pos Dg] at e;intro z' az H' C a s' aT kp hC L;refine abC L hcm hx cX oN (SS cn.1 C Dg hC) hg hm hN hi hk (λs5 H5 kn I5=>?_) f7;obtain⟨ts,ps',ss⟩:=hs a;refine ps' af s5 _ _ _ I5 ?_;have sm:aH H' H5:=λb o q=>kn.same L.fr q
     refine aT.stored (i:=i) (t:=.own) sm (Wr hC kn) .nil λz5 xS=>?_
     have xS:=xS;have iT:∀{jg},Kp X (az.set i (some (.ref a))) jg->Kp X σ (jg.set i none):=λ{jg} b=>((kp.trans (.set hi k7)).trans b).trans (.set hi k7)
     cases Ia:g (ρ'.set i (some (.exc cn,.own))) with
     |none=>rw[Ia] at e;cases e
     |some o2=>
      rw[Ia] at e;refine ss xS Ia ?_;cases o2 with
      |nx bh=>cases e;exact λz6 jg H6 xV b=>k z6 _ H6 (xV.unset i) (iT b)
      |bk bh=>cases e;exact λz6 jg H6 xV b=>k z6 _ H6 (xV.unset i) (iT b)
      |ct bh=>cases e;exact λz6 jg H6 xV b=>k z6 _ H6 (xV.unset i) (iT b)
      |rt d=>cases e;exact k
      |er _ _ _=>cases e
    .rw[if_neg Dg] at e;cases e
inductive Rz where
 |ok (d:D)|er (cn:XN)
def sP(K:PySem.W.Frag)(F:List D->Option Rz):Sp:=λvs H Q E=>∃ds fp r,aB K H ds vs fp/\F ds=some r/\match r with
 |.ok d=>∀H' v gP,aH H H'->Rep K H' d v gP->gP.Nodup->(∀a∈gP,H a=none)->Q v H'
 |.er cn=>∀H' C,aH H H'->PySem.W.nsIn K mainGlobals cn.1=some (some (.ref C))->E (.ref C) cn.2 H'
def qW(n N:Nat)(b:SF):List D->Option Rz:=λds=>if ds.length=n then(match b (uJ N ds) with
 |some (.rt d)=>some (.ok d)
 |some (.nx _)=>some (.ok .aA)
 |some (.er _ cn _)=>some (.er cn)
 |_=>none) else none
section
variable{K:PySem.W.Frag}
theorem WG{x qual:Str}{st:Stmt}{f:Addr}{fd:FuncData}{N ps:List Str}{k:Nat}{b:SF}(F:jd K x qual st f fd)(S:o7 N ps (cz st))(pJ:ps.length<=N.length)
  (hb:∀(aR) (A) (outer) (s) (H) (E),bu k (A.deeper (envOfC qual (cz st) s.heap.objs.size f aR))->FS (fU (iz P w) P w K mg base N qual (cz st) f aR A outer s H E) (gO st) b) :
  bX P w K mg base (iz P w) (k+1) f fd ps (sP K (qW ps.length N.length b)):=by
 have mh:∀{ds} {r},qW ps.length N.length b ds=some r->ds.length=ps.length:=λ{ds d} e=>by
  unfold qW at e
  by_cases h:ds.length=ps.length
  .exact h
  .rw[if_neg h] at e;cases e
 obtain⟨oc,od,kV,doc,pm,an,aR,ct,qH,rfl,lk,g7⟩:=F.ex;refine NJ lk g7 S (λvs H Q E ⟨ds,fp,r,rs,e,_⟩=>by rw[<- rs.length];exact mh e) λA outer s H vs Q E hr ⟨ds,fp,r,rs,e,q⟩=>?_
 obtain⟨t,p,sd⟩:=hb aR A outer s H E hr;refine⟨t,p,?_⟩;have hl:=mh e;obtain⟨z,ok⟩:=Ok.kq .nil .nil rs λ_ _ m=>nomatch m
 unfold qW at e;rw[if_pos hl] at e;cases ho:b (uJ N.length ds) with
 |none=>rw[ho] at e;cases e
 |some o=>
  rw[ho] at e;refine sd ok ho ?_;cases o with
  |rt d'=>
   cases e;exact λH' v gP en r nd fr=>q H' v gP (λa o e=>en a o e (λm=>nomatch m)) r nd λa m=>(fr a m).resolve_right λm=>nomatch m
  |nx ρ'=>
   cases e;exact λz' az H' aT _=>q H' .aA [] (λa o e=>aT.en a o e (λm=>nomatch m)) .aA acj λa m=>nomatch m
  |bk _=>cases e
  |ct _=>cases e
  |er raw cn ρ'=>
   cases e;cases raw with
   |true=>exact⟨_,YK,λz' az H' C aT _ hC=>q H' C (λa o e=>aT.en a o e (λm=>nomatch m)) hC⟩
   |false=>exact⟨_,SA,λz' az H' C aT _ hC=>q H' C (λa o e=>aT.en a o e (λm=>nomatch m)) hC⟩
end
noncomputable def IU(T:List (Str×Bool)):D->Option D
 |.exc cn=>(T.lookup cn.1).map .bl
 |_=>none
def F8(K:PySem.W.Frag)(T:List (Str×Bool))(c:Value):Prop:=∀cn b C,T.lookup cn=some b->PySem.W.nsIn K mainGlobals cn=some (some (.ref C))->oV K C/\PySem.W.kitOne K (.ref C) c=some b
theorem abc{cv:Value}{c:V}{tc:TE}(hc:∀u,RelV c u->u=cv)(hT:F8 X.K T cv)(hm:X.mg "isinstance"=none)(ha:FP X a fa)(pc:PE X (.Name x p2) (λ_ H Q=>Q c H))(hg:Gl X "isinstance":=by rfl)
  (hs:starEach [a,.Name x p2] X.env=[(false,eval a X.env),(false,eval (.Name x p2) X.env)]:=by rfl) (hpl:(backTo pos (starEach [.Name x p2] X.env)).any (·.1)=false:=by rfl):FP X (.Call (.Name "isinstance" p) [a,.Name x p2] [] pos) (e1 (IU T) fa):=by
 obtain⟨ta,pa,sa⟩:=ha;exists 65;exists 21,lR WL hg hm (show bootBuiltins "isinstance"=some (.builtin "isinstance") by decide +kernel) (cP pa (cP pc eT) (by rw[hs,cJ])) (he:=by rw[hs,cJ]);obtain⟨d1,t1,h1,h2,rfl⟩:=sX e;refine sa ok h1 λH1 v fp s1 r1 _=>?_
 unfold IU at h2
 split at h2
 .rename_i cn;cases hl:T.lookup cn.1 with
  |none=>rw[hl] at h2;cases h2
  |some b=>
   rw[hl] at h2;cases h2;cases r1 with
   | @exc _ a' C de ob hn ho _=>
    obtain⟨kk,ke⟩:=hT cn.1 b C hl hn;exact⟨a',C,c,cv,b,de,ob,rfl,hc,ho,kk,ke,k H1 _ [] s1 (.bl _) .nil⟩
 .cases h2
theorem YY{C:Addr}(hT:F8 X.K T (.ref C))(hm:X.mg "isinstance"=none)(hmx:X.mg x=some (.ref C))(ha:FP X a fa)(hg:Gl X "isinstance":=by rfl)(LK:GD X x:=by exact⟨rfl,by decide⟩)
  (hs:starEach [a,.Name x p2] X.env=[(false,eval a X.env),(false,eval (.Name x p2) X.env)]:=by rfl) (hpl:(backTo pos (starEach [.Name x p2] X.env)).any (·.1)=false:=by rfl):FP X (.Call (.Name "isinstance" p) [a,.Name x p2] [] pos) (e1 (IU T) fa):=
 abc (tc:=λ_ H Q=>Q (.ref C) H) (c:=.ref C) (λu r=>r) hT hm ha (afd LK.1 hmx LK.2) hg hs hpl
noncomputable def kF:List D->Option (List Str)
 |[]=>some []
 |.str x::r=>(kF r).map λm=>x::m
 |_::_=>none
theorem yY{K:PySem.W.Frag}:∀{ds} {xs} {fp} {ys},aB K H ds xs fp->kF ds=some ys->xs=ys.map V.str
 |_,_,_,_,.nil,e=>by cases e;rfl
 |_,_,_,ys,.cons (d:=d) h t,e=>by
  cases d with
  |str x=>
   unfold kF at e;cases q:kF _ with
   |none=>rw[q] at e;cases e
   |some m=>
    rw[q] at e;cases e;cases h;rw[yY t q];rfl
  |_=>cases e
theorem Qz:∀ys:List Str,kF (ys.map D.str)=some ys
 |[]=>rfl
 |y::ys=>by
  show(kF (ys.map D.str)).map (λm=>y::m)=_;rw[Qz ys];rfl
theorem QZ:∀{ys} {us},aU (ys.map V.str) us->StrsAre us ys
 |[],_,r=>by cases r;exact .nil
 |y::ys,_,r=>by
  cases r with
  |cons h t=>
   obtain⟨tk,rfl⟩:=h;exact .cons y tk (QZ t)
noncomputable def dH(k:Str)(ys:List Str):Nat:=ys.countP (· == k)
theorem count_eq(k:Str):∀ys:List Str,countIn (.str k) (ys.map PyData.str)=(dH k ys:Int)
 |[]=>rfl
 |y::ys=>by
  rw[aas,countIn,count_eq k ys];unfold dH;rw[List.countP_cons];have e:same (.str y) (.str k)=(y==k):=by simp[same]
  rw[e];cases h:(y==k)
  .simp
  .simp;omega
def aab(K:PySem.W.Frag):V->List V->Hp->VK->Prop:=λx vs H Q=>∃(l:Addr) (ys:List Str) (k:Str),x=.ref l/\vs=[.str k]/\bZ K H l (ys.map V.str)/\Q (.int (dH k ys)) H
theorem afO{X:Cx}:DM X "list.count" (aab X.K):=by
 exists 43;obtain⟨l,ys,k,rfl,rfl,hH,q⟩:=h;cases rx;obtain⟨u,rfl,ru⟩:=rv.one;obtain⟨t,rfl⟩:=ru;obtain⟨au,r,pl,hz⟩:=I.list hH;refine count_list_strs pl.isList (QZ r) ?_;rw[count_eq];exact⟨.int (dH k ys),H,I.tok _,⟨_,rfl⟩,q⟩
def vZ:D->D->Option D
 |.lst ds,.str k=>(kF ds).map λys=>.int (dH k ys)
 |_,_=>none
theorem Em(ho:FP X o fo)(ha:FP X a fa)(hs:Y2 X a:=by rfl)(lQ:attributeBase o "count" X.env (eval o X.env)=eval o X.env:=by rfl)
  (lG:((backTo p3 (starEach [a] X.env)).all (λx=>!x.1)&&(backToKw p3 (keywordEach [] X.env)).all (λx=>x.1.isSome)&&decide ([a].length+([]:List Keyword).length+(if([]:List Keyword).isEmpty then 0 else 1)<30))=true:=by rfl)
  (lU:(p2.endLine==p3.line)=true:=by rfl):FP X (.Call (.Attribute o "count" p2) [a] [] p3) (e2 vZ fo fa):=by
 obtain⟨to,po,so⟩:=ho;obtain⟨ta,pa,sa⟩:=ha;refine⟨_,yP PySem.F.plainAttrs_list PySem.F.slot_list_count PySem.F.type_list_count afO po (cP pa eT hs) lQ lG lU hs rfl,@λH0 S z aq ρ σ H Q dd tg ok e k=>?_⟩;exists 86;unfold vZ at e3
 split at e3
 .rename_i ds ky;cases hS:kF ds with
  |none=>rw[hS] at e3;cases e3
  |some ys=>
   rw[hS] at e3;cases e3;refine so ok e1 λH1 v fp s1 r1 _=>?_
   obtain⟨l,xs,f,rfl,hq,rs,_⟩:=r1.dY;have ex:=yY rs hS;subst ex;refine⟨.inl ⟨rfl,_,hq⟩,?_⟩;refine sa (ok.same s1) jt λH2 u l9 s2 r2 _=>?_
   cases r2;obtain⟨l',Zo,f',e',XO,v_,_⟩:=(r1.same s2).dY;cases e';have ex:=yY v_ hS;subst ex;exact⟨l,ys,ky,rfl,rfl,XO,k H2 _ [] (s1.trans s2) (.int _) .nil⟩
 .cases e3
def BW(K:PySem.W.Frag)(t:Addr)(ys:List Str):Prop:=∃(o:Obj) (au:Array Value) (n:Nat),K.lookup t=some o/\o.cls=.type "tuple"/\o.dict=none/\o.data=.seq au n/\au.size<=sizeLine/\aU (ys.map V.str) au.toList
theorem KZ{K:PySem.W.Frag}:∀ys:List Str,aB K H (ys.map D.str) (ys.map V.str) []
 |[]=>.nil
 |y::ys=>.cons (.str y) (KZ ys)
theorem aa6(hm:X.mg x=some (.ref t))(ht:BW X.K t ys)(hg:GD X x:=by exact⟨rfl,by decide⟩):FP X (.Name x pos) (eC (.tup (ys.map D.str))):=
 ⟨_,K4 hg.1 hm (v:=.ref t) rfl hg.2,@λ_ _ _ _ _ _ H _ _ _ _ e q=>by cases e;exact q H _ _ (aH.refl H) (.tup (.inr ht) (KZ ys)) .nil⟩
def uq(neg:Bool):D->D->Option D
 |.str i,.lst ds=>(kF ds).map λns=>.bl (if neg=true then !(ns.any (· == i)) else ns.any (· == i))
 |.str i,.tup ds=>(kF ds).map λns=>.bl (if neg=true then !(ns.any (· == i)) else ns.any (· == i))
 |_,_=>none
theorem LM(i:Str)(ns:List Str):vG (.str i) (ns.map V.str)=ns.any (· == i):=by
 unfold vG;rw[agJ];rfl
theorem Oe(ns:List Str):(ns.map V.str).all mC=true:=by
 rw[ahb];exact ada.mpr λ_ _=>rfl
theorem KN{K:PySem.W.Frag}{neg:Bool}:gC K (Ck K neg) (uq neg):=by
 exists 42;unfold uq at e
 split at e
 .rename_i i ds;cases hS:kF ds with
  |none=>rw[hS] at e;cases e
  |some ys=>
   rw[hS] at e;cases e;cases r1;obtain⟨l,xs,f,rfl,hq,rs,_⟩:=r2.dY;have ex:=yY rs hS;subst ex;refine⟨l,_,rfl,.inl hq,rfl,Oe ys,?_⟩;rw[LM];exists 53
 .rename_i i ds;cases hS:kF ds with
  |none=>rw[hS] at e;cases e
  |some ys=>
   rw[hS] at e;cases e;cases r1;cases r2 with
   |tup hq rs=>
    have ex:=yY rs hS;subst ex;refine⟨_,_,rfl,.inr hq,rfl,Oe ys,?_⟩;rw[LM];exists 53
 .cases e
theorem Zk(ha:FP X a fa)(hb:FP X b fb)(hm:behindInMarks .In b=false:=by rfl):FT X (.Compare a [.In] [b] pos) (tV (e2 (uq false) fa fb)):=iY OG KN ha hb hm
theorem afC(ha:FP X a fa)(hb:FP X b fb)(hm:behindInMarks .NotIn b=false:=by rfl):FT X (.Compare a [.NotIn] [b] pos) (tV (e2 (uq true) fa fb)):=iY Ff KN ha hb hm
end L2.Ev
namespace L2.Ev
open PySem PySem.W
theorem Lw(q:excIn K C ud newId=true):∃nm qn N bs bm hdct sn sub ab col dd k0 k1 k2 k3 k5,K.lookup C=some (excClassObj nm qn C N bs bm hdct sn sub ab col dd k0 k1 k2 k3 k5 newId)/\
  tailIn K ud bm=true/\nsOkIn K N=true/\nsIn K N "__init__"=some none:=by
 unfold excIn at q
 split at q
 .rename_i dd cd sl ho
  split at q
  .rename_i C' bm k0 k1 k2 k3 n k5 hm hs;simp only[abn,afJ,Bool.not_eq_true'] at q;obtain⟨⟨⟨⟨⟨rfl,rfl⟩,M3⟩,ht⟩,aE⟩,Aa⟩:=q;obtain⟨nm,bs,mro,ns,qn,hd,sn,sub,ab,col,del⟩:=cd;dsimp only at hm M3 aE Aa;subst hm M3;have BD:sl=#[k0,k1,k2,k3,some (.builtin n),k5]:=by
    obtain⟨l⟩:=sl;simp only at hs;rw[hs]
   subst BD;exact⟨nm,qn,ns,bs,bm,hd,sn,sub,ab,col,dd,k0,k1,k2,k3,k5,ho,ht,aE,Aa⟩
  .cases q
 .cases q
theorem aa5(q:excIn K C NF "ValueError.__new__"=true):Cc K C:=by
 obtain⟨nm,qn,N,bs,bm,hdct,sn,sub,ab,col,dd,k0,k1,k2,k3,k5,h1,h2,h3,h4⟩:=Lw q;exact⟨⟨_,_,_,_,bm,N,nm,qn,bs,hdct,sn,sub,ab,col,dd,k0,k1,k2,k3,k5,PySem.F.excBase_ValueError,h1,h3,h4,h2⟩⟩
def Shape(K:Frag)(C:Addr):Prop:=∃nm qn N bs bm hdct sn sub ab col dd k0 k1 k2 k3 k5 newId,K.lookup C=some (excClassObj nm qn C N bs bm hdct sn sub ab col dd k0 k1 k2 k3 k5 newId)
theorem Sf(q:excIn K C ud newId=true):Shape K C:=by
 obtain⟨nm,qn,N,bs,bm,hdct,sn,sub,ab,col,dd,k0,k1,k2,k3,k5,h1,_⟩:=Lw q;exact⟨nm,qn,N,bs,bm,hdct,sn,sub,ab,col,dd,k0,k1,k2,k3,k5,newId,h1⟩
theorem N7{sub:List Value}{k0 k1 k2 k3 k5:Option Value}
  (h:K.lookup C=some (excClassObj nm qn C N bs bm hdct sn sub ab col dd k0 k1 k2 k3 k5 newId)) (m:mroIn K C v=some true):(Value.ref C::bm).contains v=true:=by
 unfold mroIn clsIn at m;rw[h] at m;dsimp only at m;rw[acV,if_neg (by simp)] at m;exact ab1 m
theorem acw{C D:Addr}(hC:Shape K C)(hD:Shape K D)(m:mroIn K C (.ref D)=some true)(b:mroIn K D (.type "BaseException")=some true):w_ K C D:=by
 obtain⟨nm,qn,N,bs,bm,hdct,sn,sub,ab,col,dd,k0,k1,k2,k3,k5,newId,h1⟩:=hC;obtain⟨zF,qn',N',wV,p_,zH,yj,xw,wM,yM,jW,j0,j1,j2,j3,j5,x6,h2⟩:=hD;refine⟨nm,qn,N,bs,bm,hdct,sn,sub,ab,col,dd,k0,k1,k2,k3,k5,newId,h1,zF,qn',N',wV,p_,zH,yj,xw,wM,yM,jW,j0,j1,j2,j3,j5,x6,h2,?_,N7 h1 m⟩;have:=N7 h2 b;rw[List.contains_cons] at this;rcases(ahf _ _).mp this with q|q
 .cases afJ.mp q
 .exact q
noncomputable def aec(names:List Str):Str->Bool:=λcn=>names.contains cn
def acs(K:Frag)(names:List Str)(Dc:Addr):Prop:=∀cn C,aec names cn=true->nsIn K mainGlobals cn=some (some (.ref C))->w_ K C Dc
theorem aeA(h:f ρ=some (.er raw cn ρ')):b7 f g ρ=some (.er raw cn ρ'):=by unfold b7;rw[h]
theorem UY(m:mroIn K C v=some b):(clsIn K C).isSome=true:=by
 unfold mroIn at m;cases h:clsIn K C with
 |none=>rw[h] at m;cases m
 |some _=>rfl
end L2.Ev
namespace L2
open PySem PySem.Spec PyProof.Rows
theorem OX(h:PE X.eZ e t):PX X e (λσ H Q _=>t σ H Q):=λaf s σ H Q E I hw=>
 adU (h af s σ H Q (I.kM _) hw) (λ_ _ ⟨v,H',I',r,q⟩=>⟨v,H',I'.lP,r,q⟩) λ_ _ z=>False.elim z
end L2
namespace L2.Ev
open PySem PySem.Spec PyProof.Rows
noncomputable def BY(cn m:Str)(F:List D->Option Rz)(fo:EF)(g:AF):XR:=λρ=>match fo ρ,g ρ with
 | some (.ins c es,_),some ps=>if c=cn/\es.lookup m=none then(match F (.ins c es::ps.map (·.1)) with
  |some (.ok d)=>some (.ok d ρ)
  |some (.er en)=>some (.er en ρ)
  |none=>none) else none
 |_,_=>none
theorem WZ(hC:ClsAt X.K cn C)(hm:kG X.K C m f)(GG:bX X.prog X.w X.K X.mg X.base (iz X.prog X.w) k f fd ps (sP X.K F))(hr:bu k X.A)(hb:Binds X.K fd ps [])(ho:FP X.eZ o fo)(ha:FA X.eZ (e::es) g)(hx:X.ex=[]:=by rfl)
  (cX:SE X e es pos:=by exact⟨rfl,rfl⟩)
  (ht:uv X o m apos (e::es) pos pl:=by exact rfl):FE X (.Call (.Attribute o m apos) (e::es) [] pos) (BY cn m F fo g):=by
 obtain⟨to,po,so⟩:=ho;obtain⟨ta,pa,_,qa⟩:=ha;refine⟨_,UC po hC.cl hm GG hr hx hb .nil pa cX.1 cX.2 ht,@λH0 S z aq ρ σ H Q E r ok e0 kk=>?_⟩;unfold BY at e0
 split at e0
 .rename_i c sG t0 qs h1 h2
  by_cases hc:c=cn/\sG.lookup m=none
  .rw[if_pos hc] at e0;obtain⟨rfl,hml⟩:=hc;cases h3:F (.ins c sG::qs.map (·.1)) with
   |none=>rw[h3] at e0;cases e0
   |some w=>
    rw[h3] at e0;refine so ok h1 λH1 v fp s1 r1 _=>?_
    obtain⟨b,dx,fs,gf,rfl,rfl,h4,h5,h6,h7⟩:=r1.lM hC.ns;refine⟨b,dx,fs,rfl,h4,rP h6 hml,?_⟩;refine qa (ok.same s1) h2 λH2 vs l9 s2 r2 _=>?_
    rw[acE];cases w with
    |ok d=>
     cases e0;exact⟨_,_,_,.cons (r1.same s2) r2,h3,λH3 u gP s3 r3 nd fr=>kk z H2 H3 u gP ((ok.same s1).same s2) s3 r3 ⟨nd,fr⟩⟩
    |er en=>
     cases e0;exact⟨_,_,_,.cons (r1.same s2) r2,h3,λH3 C3 s3 hn=>kk z H3 C3 (((ok.same s1).same s2).same s3) hn⟩
  .rw[if_neg hc] at e0;cases e0
 .cases e0
def CI(fa fh:EF):EF:=λρ=>match fa ρ,fh ρ with
 |some (.lst ds,_),some (.int i,_)=>if aN ds=true then some (.lst (cutD ds (some i) none),.own) else none
 |_,_=>none
theorem afR(ha:FP X a fa)(hh:FP X b fh):FP X (.Subscript a (.Slice (some b) none none p2) pos) (CI fa fh):=by
 exists 69;obtain⟨th,ph,qh⟩:=hh;exists 21,Eu DE p (JI ph) Iz;unfold CI at e
 split at e
 .rename_i ds t1 i t2 e1 e2;exists 84;cases e;refine q ok e1 λH1 x f1 s1 r1 _=>?_
  refine qh (ok.same s1) e2 λH2 y f2 s2 r2 _=>?_
  cases r2;refine⟨i,rfl,?_⟩;obtain⟨w,xs,f,rfl,hq,rs,_⟩:=(r1.same s2).dY;have hn:=rs.aC hi;subst hn;refine⟨w,xs,rfl,hq,λp hp=>?_⟩;have s3:aH H2 (upd H2 p (.lst (kX xs (some i) none))):=λb o e=>by rw[aP (cV e hp)];exact e
  have rr:aB X.K H2 (cutD ds (some i) none) (kX xs (some i) none) []:=by
   unfold cutD kX;rw[rs.length];exact aB.BL _ (aB.AY _ rs)
  exists 60;cases aa3.mp m;exact s1.free (s2.free hp)
 .cases e
def zj(fa fb:EF):EF:=λρ=>match fa ρ,fb ρ with
 |some (.tup ds,.sh o),some (.int i,_)=>(dU ds i).map λd=>(d,.sh o)
 |_,_=>none
theorem BX(ha:FP X a fa)(hb:FP X b fb)(hs:Ds b:=by exact λ_ _=>rfl):FP X (.Subscript a b pos) (zj fa fb):=by
 exists 51;exists 20,PN Qs pa pb hs;unfold zj at e
 split at e
 .rename_i ds o i t2 e1 jt;cases h3:dU ds i with
  |none=>rw[h3] at e;cases e
  |some d3=>
   rw[h3] at e;cases e;refine sa ok e1 λH1 x f1 s1 r1 g1=>?_
   exists 54
   have r1:=r1.same s2;obtain⟨p,xs,rfl,hq,rs⟩:=r1.i8;cases r2;unfold dU at h3;cases h:lI ds.length i with
   |none=>rw[h] at h3;cases h3
   |some j=>
    rw[h,acV] at h3;obtain⟨v,f',hv,rv,hm⟩:=rs.get h3;refine .inr (.inl ⟨p,xs,i,v,rfl,rfl,hq,?_,q H2 v f' (s1.trans s2) rv λa m=>g1 a (hm a m)⟩);unfold dU;rw[<- rs.length,h,acV];exact hv
 .cases e
def qt(X:Cx)(e:Expr)(f:aO->Option (Bool×aO)):Prop:=∃t,PT X e t/\∀{H0} {S} {z} {aq} {ρ} {σ} {H} {Q} {b} {ρ'},
 Ok X.K H0 S z aq ρ σ H->f ρ=some (b,ρ')->(∀z' H',Ok X.K H0 S z' aq ρ' σ H'->Q b H')->t σ H Q
def D9(fx:XF)(fb:EF):aO->Option (Bool×aO):=λρ=>match fx ρ with
 |some (d1,ρ')=>match fb ρ' with
  |some (d2,_)=>match jw d1 d2 with
   |some (.bl b)=>some (b,ρ')
   |_=>none
  |none=>none
 |none=>none
noncomputable def vC(c:aO->Option (Bool×aO))(f g:SF):SF:=λρ=>match c ρ with
 |some (true,ρ')=>f ρ'
 |some (false,ρ')=>g ρ'
 |none=>none
theorem V_(ha:FZ X a fx)(hb:FP X b fb):qt X (.Compare a [.NotEq] [b] pos) (D9 fx fb):=by
 exists 51;exists 26,KP Rb pa pb (g_ _);unfold D9 at e;cases h1:fx ρ with
 |none=>rw[h1] at e;cases e
 |some w=>
  obtain⟨d1,aS⟩:=w;rw[h1] at e;exists 70;cases h2:fb aS with
  |none=>rw[h2] at e;cases e
  |some w2=>
   obtain⟨d2,t2⟩:=w2;rw[h2] at e;exists 70
   split at e
   .rename_i bb h3;cases e;refine sa ok h1 λz1 H1 x bG r1=>?_
    refine sb bG h2 λH2 y f2 s2 r2 _=>?_
    refine QK H2 x y d1 d2 [] f2 _ _ (r1.same s2) r2 h3 λH3 v s3 r3=>?_
    cases r3;exact⟨_,rfl,k z1 H3 ((bG.same s2).same s3)⟩
   .cases e
theorem Sy(hc:qt X c tc)(ha:FS X s1 f)(hb:FS X s2 g):eV X (.If c s1 s2 pos) (vC tc f g):=by
 obtain⟨t,p,q⟩:=hc;obtain⟨t1,p1,q1⟩:=ha;obtain⟨t2,p2,q2⟩:=hb;exists 23,Ah p p1 p2;unfold vC at e;cases h:tc ρ with
 |none=>rw[h] at e;cases e
 |some w=>
  obtain⟨y,aS⟩:=w;rw[h] at e;refine q ok h λz1 H1 bG=>?_
  cases y with
  |true=>rw[if_pos rfl];exact q1 bG e k
  |false=>rw[if_neg abz];exact q2 bG e k
section
variable(P:Program)(w:World)(K:PySem.W.Frag)(mg:Str->Option Value)(base:Heap)(CX:qf)(k:Nat)
def FN(x:Str)(ps:List Str)(sp:Sp)(cm:Bool:=true):Prop:=∃a fd,bX P w K mg base CX k a fd ps sp cm/\mg x=some (.ref a)/\PySem.W.keepIn K (.ref a)=true/\Binds K fd ps []
def MT(C:Addr)(x:Str)(ps:List Str)(sp:Sp)(cm:Bool:=true):Prop:=∃a fd,bX P w K mg base CX k a fd ps sp cm/\Binds K fd ps []/\kG K C x a
def MI(C:Addr)(ps:List Str)(sp:Sp)(cm:Bool:=true):Prop:=∃a fd,bX P w K mg base CX k a fd ps sp cm/\Binds K fd ps []/\Mk K C a
end
def GL(K:PySem.W.Frag)(x q:Str)(st:Stmt)(f:Addr):Prop:=∃oc od kV dc pm an cd ct sl,K.lookup f=some ⟨oc,od,.func (PySem.W.fnOf x q (l8 st) (gO st) (cz st) .none kV dc pm an cd ct),sl⟩/\PySem.W.codeIn K cd q=true/\PySem.W.keepIn K (.ref f)=true
def Dk(K:PySem.W.Frag)(x:Str)(st:Stmt):Prop:=∃f,PySem.W.nsIn K mainGlobals x=some (some (.ref f))/\GL K x x st f
def GM(K:PySem.W.Frag)(C:Addr)(x q:Str)(st:Stmt):Prop:=∃f,PySem.W.findIn K (.ref C) x=some (some (.ref f))/\PySem.W.isFn K (.ref f)=true/\GL K x q st f
abbrev BA(x q:Str)(st:Stmt)(ps:List Str):Prop:=∀(kV doc pm) (an) (aR ct) (us),us.length=ps.length->bindArgs (PySem.W.fnOf x q (l8 st) (gO st) (cz st) .none kV doc pm an aR ct) ⟨us,[]⟩=pure (ps.zip us)
theorem Et{K:PySem.W.Frag}{x q:Str}{st:Stmt}{f:Addr}(l:GL K x q st f):PySem.W.keepIn K (.ref f)=true/\∃fd,jd K x q st f fd:=by
 obtain⟨oc,od,kV,dc,pm,an,cd,ct,sl,h1,h2,h3⟩:=l;exact⟨h3,_,Mx h1 h2 h3⟩
section
variable{K:PySem.W.Frag}{st:Stmt}
theorem Yr(X:K.In h)(G:h.Ns mainGlobals mg)(l:Dk K x st)(ok:∀{f} {fd},jd K x x st f fd->bX P w K mg base CX k f fd ps sp cm)(b:BA x x st ps):FN P w K mg base CX k x ps sp cm:=by
 obtain⟨f,a,l⟩:=l;obtain⟨kp,fd,F⟩:=Et l;exact⟨f,fd,ok F,PySem.W.mg_of X G a,kp,F.binds b⟩
theorem PF(l:GM K C x q st)(ok:∀{f} {fd},jd K x q st f fd->bX P w K mg base CX k f fd ps sp cm)(b:BA x q st ps):MT P w K mg base CX k C x ps sp cm:=by
 obtain⟨f,a,i,l⟩:=l;obtain⟨kp,fd,F⟩:=Et l;exact⟨f,fd,ok F,F.binds b,⟨a,i,kp⟩⟩
theorem Y6{sp:Heap->Sp}(X:K.In h)(G:h.Ns mainGlobals mg)(Ef:mg "law"=some (.ref fa))(l:Dk K "law" st)
  (b:∀(kV doc pm) (an) (aR ct) (s) (v),BindsTo s (PySem.W.fnOf "law" "law" (l8 st) (gO st) (cz st) .none kV doc pm an aR ct) ⟨[v],[]⟩ [(p,v)])
  (ok:∀base:Heap,K.In base->base.Ns mainGlobals mg->∀{f} {fd},jd K "law" "law" st f fd->bX P w K mg base CX k f fd [p] (sp base) cm) :
  ∃fd:FuncData,(∀(s) (v),BindsTo s fd ⟨[v],[]⟩ [(p,v)])/\∀base:Heap,K.In base->base.Ns mainGlobals mg->bX P w K mg base CX k fa fd [p] (sp base) cm:=by
 obtain⟨f,a,oc,od,kV,dc,pm,an,cd,ct,sl,h1,h2,h3⟩:=l;have e:=Ef.symm.trans (PySem.W.mg_of X G a);cases e;exact⟨_,b kV dc pm an cd ct,λbase K1 G1=>ok base K1 G1 (Mx h1 h2 h3)⟩
end
theorem kR(h1:g d t ρ=some aS)(h2:f aS=some (.nx bh)):dh g t f (d::ds) ρ=dh g t f ds bh:=by
 conv=>lhs;unfold dh
 rw[h1];dsimp only;rw[h2]
theorem Cj(h1:g d t ρ=some aS)(h2:f aS=some (.rt r)):dh g t f (d::ds) ρ=some (.rt r):=by
 unfold dh;rw[h1];dsimp only;rw[h2]
end L2.Ev
namespace L2
open PySem PySem.Spec PyProof.Rows
namespace Ev
noncomputable def I_(fx:XF):aO->Option (Bool×aO):=λρ=>match fx ρ with
 |some (.bl c,ρ')=>some (!c,ρ')
 |_=>none
theorem U3(h:FZ X a fx)(he:∀whole,isTrue a X.env whole=(do let v <- whole;standAt a.pos;holding [v] (truthy v)):=by intro _;rfl):qt X (.UnaryOp .Not a pos) (I_ fx):=by
 obtain⟨t,p,q⟩:=h;exists 26,Pc (J9 p he);unfold I_ at e
 split at e
 .rename_i c' aS h1;cases e;refine q ok h1 λz' H' v aT r=>?_
  cases r;exact⟨_,rfl,k z' H' aT⟩
 .cases e
noncomputable def xy(ft:TF)(fz:aO->Option (Bool×aO)):aO->Option (Bool×aO):=λρ=>match ft ρ with
 |some true=>fz ρ
 |some false=>some (false,ρ)
 |none=>none
theorem TY(ha:FT X a ft)(hb:qt X b fz):qt X (.BoolOp .And [a,b] pos) (xy ft fz):=by
 exists 69;obtain⟨t',p',q'⟩:=hb;exists 26,(Ms p (KD p')).pt;unfold xy at e
 split at e
 .rename_i h1;refine q ok h1 λH1 s1=>?_
  rw[if_pos rfl];exact q' (ok.same s1) e k
 .rename_i h1;cases e;refine q ok h1 λH1 s1=>?_
  rw[if_neg abz];exact k z H1 (ok.same s1)
 .cases e
end Ev
end L2
namespace L2.Ev
open PySem PySem.Spec PyProof.Rows
section
variable{X:Cx}{elts:List Expr}{tp:Pos}{a b:Expr}{fa fb:EF}{p pos:Pos}
def Ka(T:String):D->Option D
 |.tup _=>some (.bl ("tuple" == T))
 |.gG _=>some (.bl ("list" == T))
 |d=>CN T d
def NN(T:String):Prop:=∀(K:PySem.W.Frag) (t:String),t∈["tuple","list"]->PySem.W.kitOne K (.type t) (.type T)=some (t==T)
theorem ZN:NN "tuple":=by
 intro K t m;simp only[abb,aew,ag8] at m;rcases m with rfl|rfl<;>rfl
theorem ac0(T:String):fX X (.builtin "isinstance") (λxs H Q=>(∃x t b,xs=[x,V.ty T]/\jv X.K H x t/\PySem.W.kitOne X.K t (.type T)=some b/\Q (.bl b) H)\/
  (∃a ys b,xs=[.ref a,V.ty T]/\ck X.K H a ys/\PySem.W.kitOne X.K (.type "tuple") (.type T)=some b/\Q (.bl b) H)\/(∃a ys b,xs=[.ref a,V.ty T]/\bZ X.K H a ys/\PySem.W.kitOne X.K (.type "list") (.type T)=some b/\Q (.bl b) H)):=by
 exists 45;rcases h with h|⟨a,ys,bb,rfl,hq,e,q⟩|⟨a,ys,bb,rfl,hq,e,q⟩
 .exact QY T af s σ H xs us Q I r h
 .obtain⟨u,w',rfl,ru,eW⟩:=vals2 r;cases eW;cases(show u=Value.ref a from ru);obtain⟨au,_,⟨o,h1,h2,_⟩,_⟩:=I.tuple hq;exact PySem.W.kia_one PySem.W.kitx_tuple I.c8 ⟨o,h1,h2⟩ e (λz=>nomatch z) λtk=>⟨.bl bb,H,I.tok tk,rfl,q⟩
 .obtain⟨u,w',rfl,ru,eW⟩:=vals2 r;cases eW;cases(show u=Value.ref a from ru);obtain⟨au,_,⟨o,n,h1,h2,_⟩,_⟩:=I.list hq;exact PySem.W.kia_one PySem.W.kitx_list I.c8 ⟨o,h1,h2⟩ e (λz=>nomatch z) λtk=>⟨.bl bb,H,I.tok tk,rfl,q⟩
theorem aek{T:String}{x:Str}(hT:tY T)(MW:NN T)(hm:X.mg "isinstance"=none)(F0:X.mg x=none)(ha:FP X a fa)(Fo:bootBuiltins x=some (.type T):=by decide +kernel)(hg:Gl X "isinstance":=by rfl)(GV:Gl X x:=by rfl)(hn:x≠"__name__":=by decide)(f7:(x==("__debug__":Str))=false:=by decide)
  (hs:starEach [a,.Name x p2] X.env=[(false,eval a X.env),(false,eval (.Name x p2) X.env)]:=by rfl) (hpl:(backTo pos (starEach [.Name x p2] X.env)).any (·.1)=false:=by rfl):FP X (.Call (.Name "isinstance" p) [a,.Name x p2] [] pos) (e1 (Ka T) fa):=by
 obtain⟨ta,pa,sa⟩:=ha;exists 65;exists 21,lR (ac0 T) hg hm (show bootBuiltins "isinstance"=some (.builtin "isinstance") by decide +kernel) (cP pa (cP (OD (v:=.ty T) GV F0 Fo rfl hn f7) eT) (by rw[hs,cJ])) (he:=by rw[hs,cJ]) (hpl:=hpl);obtain⟨d1,t1,h1,h2,rfl⟩:=sX e;refine sa ok h1 λH1 v fp s1 r1 _=>?_
 unfold Ka at h2
 split at h2
 .cases h2;obtain⟨w,xs,rfl,hq,_⟩:=r1.i8;exact .inr (.inl ⟨w,xs,_,rfl,hq,MW X.K "tuple" (by decide),k H1 _ [] s1 (.bl _) .nil⟩)
 .cases h2;obtain⟨w,xs,rfl,hq,_⟩:=r1.rK;exact .inr (.inr ⟨w,xs,_,rfl,hq,MW X.K "list" (by decide),k H1 _ [] s1 (.bl _) .nil⟩)
 .unfold CN at h2;exists ht,AJ d1,t,h2;cases h2;obtain⟨ty,mem⟩:=r1.ty ht;exact .inl ⟨v,_,_,rfl,ty,hT X.K t mem,k H1 _ [] s1 (.bl _) .nil⟩
end
def Cw(fx:XF)(fb:EF):XF:=λρ=>match fx ρ with
 |some (d1,ρ')=>match fb ρ' with
  |some (d2,_)=>(oEq d1 d2).map λd=>(d,ρ')
  |none=>none
 |none=>none
theorem VQ(ha:FZ X a fx)(hb:FP X b fb):FZ X (.Compare a [.Eq] [b] pos) (Cw fx fb):=by
 exists 51;exists 27,Df Ew pa pb (g_ _);unfold Cw at e;cases h1:fx ρ with
 |none=>rw[h1] at e;cases e
 |some w=>
  obtain⟨d1,aS⟩:=w;rw[h1] at e;exists 70;cases h2:fb aS with
  |none=>rw[h2] at e;cases e
  |some w2=>
   obtain⟨d2,t2⟩:=w2;rw[h2] at e;exists 70;cases h3:oEq d1 d2 with
   |none=>rw[h3] at e;cases e
   |some d3=>
    rw[h3] at e;cases e;refine sa ok h1 λz1 H1 x bG r1=>?_
    refine sb bG h2 λH2 y f2 s2 r2 _=>?_
    exact Jd H2 x y d1 d2 [] f2 _ _ (r1.same s2) r2 h3 λH3 v s3 r3=>k z1 H3 v ((bG.same s2).same s3) r3
def aaW(K:PySem.W.Frag)(T:List (Str×Bool))(cs:List Addr):Prop:=∀cn b C,T.lookup cn=some b->PySem.W.nsIn K mainGlobals cn=some (some (.ref C))->oV K C/\PySem.W.kitAny K (.ref C) (cs.map Value.ref)=some b
end L2.Ev
namespace L2.Ev
open PySem
theorem sq(h:sf ρ=some (.nx ρ'))(h2:sg ρ'=r):b7 sf sg ρ=r:=by rw[jG,h,nY,h2]
theorem kU(h:f ρ=some (d,t))(h2:sg (iB ρ i d t)=r):b7 (dG i f) sg ρ=r:=sq (by unfold dG;rw[h]) h2
theorem qe(h:tf ρ=some b)(h2:b7 (if b=true then sf else gK) sg ρ=r):b7 (eX tf sf gK) sg ρ=r:=by
 have e:eX tf sf gK ρ=(if b=true then sf else gK) ρ:=by rw[ja,h];cases b<;>rfl
 rw[jG,e,<- jG,h2]
theorem dg(h:tf ρ=some false)(h2:sg ρ=r):b7 (eX tf sf gK) sg ρ=r:=sq (by rw[ja,h];rfl) h2
theorem bf(h:f ρ=some (d,t))(h2:op d=some d1):e1 op f ρ=some (d1,.own):=by rw[ya,h,K6,h2];rfl
theorem aK(h:f ρ=some (d1,t1))(h2:g ρ=some (d2,t2))(h3:op d1 d2=some d):e2 op f g ρ=some (d,.own):=by rw[kD,h,h2,yX,h3];rfl
theorem cR(h:g ρ=some ps)(h2:F (ps.map (·.1))=some d):cO F g ρ=some (d,.own):=by rw[s_call,h,OI,h2];rfl
theorem bx(h:f ρ=some (.bl b,t)):tV f ρ=some b:=by rw[zf,h];rfl
theorem kN(h:tf ρ=some b):lW tf ρ=some (!b):=by rw[Ge,h];rfl
open PySem PySem.Spec PyProof.Rows
def uw(i:Nat)(cn f:Str)(fk fv:EF):SF:=λρ=>match fv ρ,ρ[i]?,fk ρ with
 | some (d,_),some (some (.ins c es,.own)),some (kd,_)=>if c=cn then(match es.lookup f,iA kd with
  |some (.bP ak),some k=>if(aC d&&aN (ak.map (·.2))&&decide (ak.length<sizeLine))=true then some (.nx (bT ρ i (.ins c (dR f (.bP (putD ak k d)) es)))) else none
  |_,_=>none) else none
 |_,_,_=>none
theorem Cu(i:Nat)(hu:X.A.units+1<cLine)(hC:ClsAt X.K cn C)(na:jr X.K C f)(hk:FP X k fk)(hv:FP X v fv)(va:VA X i x:=by walk_at "va")
  (hb:attributeBase (.Name x p) f X.env (eval (.Name x p) X.env)=eval (.Name x p) X.env:=by rfl)
  (hs:swapsWith v (some (.Subscript (.Attribute (.Name x p) f p1) k pos')) pos.line X.env=pure false:=by rfl) :
  eV X (.Assign [.Subscript (.Attribute (.Name x p) f p1) k pos'] v pos) (uw i cn f fk fv):=by
 obtain⟨tk,pk,sk⟩:=hk;obtain⟨tv,l5,sv⟩:=hv;exists 25,Bu hu (vV va.pe hb) pk l5 hs;unfold uw at e
 split at e
 .rename_i d td c es kd N1 g1 g2 g3
  by_cases hc:c=cn
  .subst hc;rw[if_pos rfl] at e
   split at e
   .rename_i ak key hl yJ
    by_cases hc:(aC d&&aN (ak.map (·.2))&&decide (ak.length<sizeLine))=true
    .rw[if_pos hc] at e;cases e;obtain⟨c1,c3⟩:=(abn _ _).mp hc;obtain⟨c1,c2⟩:=(abn _ _).mp c1;refine sv ok g1 λH1 v fd s1 rv gv=>?_
     have hn:=rv.aC c1;subst hn;obtain⟨xv,fp,cN,r,zz⟩:=(ok.same s1).sl i _ _ g2;refine⟨xv,cN,?_⟩;obtain⟨b0,dx,fs,u,gf,rfl,h1,h2,h3,h4,h5,h6⟩:=r.place hC.ns zz.1 hl;refine⟨b0,C,dx,fs,u,rfl,h1,hC.cl,na,h2,?_⟩;refine sk (ok.same s1) g3 λH2 y RV s2 rk _=>?_
     have ek:=rk.key yJ;subst ek;have r':=h3.same s2;generalize hw:u=w at r' h6;cases r' with
     | @bP l ks _ f' h gU rs=>
      have hn:=rs.aC c2;subst hn;have hlen:ks.length=ak.length:=by have:=congrArg List.length gU;simpa using this.symm
      refine⟨l,_,rfl,oZ.k h (by rw[hlen];exact abd c3),?_⟩;have im:a_ H2 (upd H2 l (.dK (putK ks key v))):=a_.upd h rfl;have kp:∀(c) o,c∉[l]->H1 c=some o->upd H2 l (.dK (putK ks key v)) c=some o:=λc o n e=>by rw[aP λq=>n (by rw[q];exact aar)];exact s2 c o e
      obtain⟨bR,k1,k2,k3⟩:=h6 (upd H2 l (.dK (putK ks key v))) (.bP (putD ak key d)) [l] ((a_.of s2).trans im) kp
       (.bP cB (ye gU) (IP gU (rs.frame (λa m=>nomatch m) im) ((rv.same s2).frame (λa m=>nomatch m) im))) h4 (λc m=>.inl m)
      obtain⟨z',aT⟩:=(ok.same s1).put g2 cN zz ((a_.of s2).trans im) (λc o n e=>kp c o (λm=>n (h5 c m)) e) k1 k2 k3;exact q z' σ _ aT (.refl _ _)
    .rw[if_neg hc] at e;cases e
   .cases e
  .rw[if_neg hc] at e;cases e
 .cases e
def Ae(i:Nat)(cn f:Str)(fv:EF):SF:=λρ=>match fv ρ,ρ[i]? with
 | some (.int j,_),some (some (.ins c es,.own))=>if c=cn/\es.length < 1000 then(match es.lookup f with
  |some (.int k)=>some (.nx (bT ρ i (.ins c (dR f (.int (k+j)) es))))
  |_=>none) else none
 |_,_=>none
theorem JD(i:Nat)(hC:ClsAt X.K cn C)(na:jr X.K C f)(hv:FP X a fv)(va:VA X i x:=by walk_at "va"):eV X (.AugAssign (.Attribute (.Name x p1) f pos') .Add a pos) (Ae i cn f fv):=by
 obtain⟨t,p,q⟩:=hv;exists 23,afq va.pe p adX;unfold Ae at e
 split at e
 .rename_i j tg c es h1 h2
  by_cases hc:c=cn/\es.length<1000
  .rw[if_pos hc] at e;obtain⟨rfl,hl⟩:=hc
   split at e
   .rename_i m hf;cases e;obtain⟨v,bH,cN,r0,zz⟩:=ok.sl i _ _ h2;refine⟨v,cN,?_⟩;obtain⟨b,dx,fs,u,gf,rfl,h3,e2,e3,_⟩:=r0.place hC.ns zz.1 hf;obtain⟨b',xH,uV,g,ev,rfl,zR,h4,h5,h6⟩:=r0.lM hC.ns;cases ev;rw[h3] at zR;cases zR;cases e3;have lf:fs.length<1000:=by have:=congrArg List.length h5;rw[List.length_map,List.length_map] at this;omega
    refine⟨b,C,dx,fs,_,rfl,h3,hC.cl,na,e2,q ok h1 λH1 y fd s1 r1 g1=>?_⟩;cases r1;refine⟨m,j,rfl,rfl,dx,fs,s1 _ _ h3,lf,?_⟩;obtain⟨z',aT⟩:=ok.fld hC h2 cN h3 s1 (.int (m+j)) acj λc m=>nomatch m
    exact k z' σ _ aT (.refl _ _)
   .cases e
  .rw[if_neg hc] at e;cases e
 .cases e
noncomputable def sM(f:EF):TF:=λρ=>match f ρ with
 |some (.lst ds,_)=>some (!ds.isEmpty)
 |_=>none
theorem Sk(h:FP X a f)(he:∀whole,isTrue a X.env whole=(do let v <- whole;standAt a.pos;holding [v] (truthy v)):=by intro _;rfl):FT X a (sM f):=by
 obtain⟨t,p,q⟩:=h;refine⟨_,WB p he,@λH0 S z aq ρ σ H Q b ok e k=>?_⟩;unfold sM at e
 split at e
 .rename_i ds tg e1;cases e;refine q ok e1 λH1 v fp s1 r1 _=>?_
  obtain⟨w,xs,f,rfl,hq,rs,_⟩:=r1.dY;have he:(!ds.isEmpty)=!xs.isEmpty:=by cases rs<;>rfl
  exact⟨_,.inl ⟨xs,hq,rfl⟩,he ▸ k H1 s1⟩
 .cases e
theorem YZ(hu:X.A.units+1<cLine)(ha:FP X a fa)(hb:FP X b fb)(hm:behindInMarks .NotIn b=false:=by rfl):FP X (.Compare a [.NotIn] [b] pos) (e2 (pN true) fa fb):=
 fp_2 DJ ha hb λta tb pa pb=>Ks (aeK hu pa pb) hm
end L2.Ev
namespace L2
open PySem PySem.Spec PyProof.Rows
theorem LJ(I:Inv X af σ H s)(h:ck X.K H a (ks.map kV)):(tupleKind (gQ X.prog X.w)).is s.heap ks a:=by
 obtain⟨au,r,⟨o,h1,h2,_,n,h3⟩,_⟩:=I.NV h;exact⟨o,au.toArray,n,h1,h2,h3,by simpa using CT r⟩
def Ko(K:PySem.W.Frag)(neg:Bool):R2:=λx y H Q=>∃b a k ak,x=.ref b/\y=.ref a/\ck K H b (List.map kV k)/\H a=some (.dT ak)/\Q (.bl (if neg=true then !(eF ak k).isSome else(eF ak k).isSome)) H
theorem Sx(hu:X.A.units+1<cLine):c_ X (compareOp .In) (Ko X.K false):=by
 rintro af s σ H x y v u Q I rx ry ⟨b,a,k,ak,rfl,rfl,hq,e,q⟩
 obtain rfl:v=Value.ref b:=rx;obtain rfl:u=Value.ref a:=ry;obtain⟨z,hd,xs,rel,dd⟩:=nN I.aE (.inl e);refine wpAny_in_heap (agu hu) (LJ I hq) hd dd ?_;have w:=(rel.val k).uR;rw[agx] at w;rw[<- w];exact⟨.bl (eF ak k).isSome,H,I.tok _,rfl,q⟩
def adQ(K:PySem.W.Frag)(td ty:TE):TE:=λσ H Q=>td σ H λx H1=>ty σ H1 λy H2=>∃a b k ak v,x=.ref a/\y=.ref b/\ck K H2 b (List.map kV k)/\H2 a=some (.dT ak)/\eF ak k=some v/\Q v H2
theorem VW(hu:X.A.units+1<cLine)(ho:PE X o td)(hi:PE X i ty)(hs:yr i):PE X (.Subscript o i pos) (adQ X.K td ty):=by
 exists 47;refine N6 PySem.F.slot_dict_getitem.lookup hs (aM (ho af s σ H _ I h) λu s1 ⟨x,H1,I1,rx,q1⟩=>aM (hi af s1 σ H1 _ I1 q1) λiv s2 hq=>?_);obtain⟨y,H2,I2,ry,a,b,k,ak,v,ex,ey,hq,e,l,q2⟩:=hq;subst ex;subst ey;exists 66;obtain rfl:iv=Value.ref b:=ry;obtain⟨z,hd,xs,rel,dd⟩:=nN I2.aE (.inl e);obtain⟨w',hw,eW⟩:=g8.some_of (by rw[<- l];exact rel.val k);obtain⟨p,hp,tM⟩:=acq.mp hw;refine⟨dd.typeIs,wpAny_getItem_heap (agu hu) (LJ I2 hq) dd hp ?_⟩;rw[tM];exact⟨v,H2,I2.tok _,eW,q2⟩
namespace Ev
def iI:List D->Option (List Key)
 |[]=>some []
 |d::ds=>match iA d,iI ds with
  |some k,some ks=>some (k::ks)
  |_,_=>none
theorem aB.keys{K:PySem.W.Frag}:∀{ds} {xs} {fp} {ks},aB K H ds xs fp->iI ds=some ks->xs=ks.map L2.kV
 |[],_,_,_,.nil,e=>by cases e;rfl
 |d::ds,_,_,ks,.cons r rs,e=>by
  unfold iI at e
  split at e
  .rename_i k nW h1 h2;cases e;rw[r.key h1,aB.keys rs h2];rfl
  .cases e
def Hr(neg:Bool):D->D->Option D
 |.tup ds,.cZ es=>(iI ds).map λk=>.bl (if neg=true then !(bB es k).isSome else(bB es k).isSome)
 |_,_=>none
theorem V0{neg:Bool}{K:PySem.W.Frag}:gC K (Ko K neg) (Hr neg):=by
 exists 42;cases d1<;>try (cases e;done)
 cases d2<;>try (cases e;done)
 rename_i ds es;have e:((iI ds).map λk=>D.bl (if neg=true then !(bB es k).isSome else(bB es k).isSome))=some d:=e;obtain⟨w,xs,rfl,hq,rs⟩:=r1.i8;cases hk:iI ds with
 |none=>rw[hk] at e;cases e
 |some ks=>
  rw[hk] at e;cases e;obtain rfl:=aB.keys rs hk;cases r2 with
  | @cZ a ak _ f h gU v_=>
   have ev:(eF ak ks).isSome=(bB es ks).isSome:=by
    obtain⟨h1,h2⟩:=qC gU v_;cases hv:bB es ks with
    |none=>rw[h2 hv];rfl
    |some dv=>obtain⟨v,f,jR,_⟩:=h1 dv hv;rw[jR];rfl
   refine⟨w,a,ks,ak,rfl,rfl,hq,h,?_⟩;rw[ev];exists 53
theorem abF(hu:X.A.units+1<cLine)(ha:FP X a fa)(hb:FP X b fb)(hm:behindInMarks .In b=false:=by rfl):FT X (.Compare a [.In] [b] pos) (tV (e2 (Hr false) fa fb)):=iY (Sx hu) V0 ha hb hm
def AB(fa fb:EF):EF:=λρ=>match fa ρ,fb ρ with
 |some (.cZ es,t),some (.tup ds,_)=>(iI ds).bind λk=>(bB es k).map λd=>(d,k_ t)
 |_,_=>none
theorem Mr(hu:X.A.units+1<cLine)(ha:FP X a fa)(hb:FP X b fb)(hs:yr b):FP X (.Subscript a b pos) (AB fa fb):=by
 exists 51;exists 20,VW hu pa pb hs;unfold AB at e
 split at e
 .rename_i es t ds t2 e1 jt;cases hk:iI ds with
  |none=>rw[hk] at e;cases e
  |some ks=>
   rw[hk,acV] at e;cases hv:bB es ks with
   |none=>rw[hv] at e;cases e
   |some dv=>
    rw[hv] at e;cases e;refine sa ok e1 λH1 x f1 s1 r1 g1=>?_
    exists 54
    obtain⟨w,xs,rfl,hq,rs⟩:=r2.i8;obtain rfl:=aB.keys rs hk;have IC:=r1.same s2;cases IC with
    | @cZ l ak _ f h gU v_=>
     obtain⟨h1,_⟩:=qC gU v_;obtain⟨v,f,jR,rv,sub⟩:=h1 _ hv;refine⟨l,w,ks,ak,v,rfl,rfl,hq,h,jR,?_⟩;exact q H2 v f (s1.trans s2) rv (cI.sub (λa j e=>(ok.zd a j e).1) g1 λa m=>aaa _ (sub a m))
 .cases e
def vY(neg:Bool):D->D->Option D
 |d1,.lst ds=>if(dw d1&&dw (.lst ds))=true then some (.bl (if neg=true then !(dO ds).any λy=>PyData.eqv y (py d1) else(dO ds).any λy=>PyData.eqv y (py d1))) else none
 |_,_=>none
def JJ(K:PySem.W.Frag)(neg:Bool):R2:=λx y H Q=>∃d1 ds f1 f2,Rep K H d1 x f1/\Rep K H (.lst ds) y f2/\dw d1=true/\dw (.lst ds)=true/\Q (.bl (if neg=true then !(dO ds).any λy=>PyData.eqv y (py d1) else(dO ds).any λy=>PyData.eqv y (py d1))) H
theorem Kn(hu:X.A.units+64<cLine):c_ X (compareOp .In) (JJ X.K false):=by
 exists 44;obtain⟨d1,ds,f1,f2,r1,r2,l1,l2,q⟩:=h;obtain⟨a1,a2,a3⟩:=lay_of l1;obtain⟨b1,b2,b3⟩:=lay_of l2;obtain⟨as,ra⟩:=mF I r1 rx a1;obtain⟨bs,rb⟩:=mF I r2 ry b1;rw[py] at rb b2 b3;simp only[PyData.canLay0] at b2;exact SeqAt.in_list_reads rb ra b2 a2 (by have:=Nat.min_le_right (PyData.depthAll (dO ds)) (py d1).depth;omega) ⟨.bl _,H,I,rfl,q⟩
theorem Yt(hu:X.A.units+64<cLine):c_ X (compareOp .NotIn) (JJ X.K true):=by
 exists 44;obtain⟨d1,ds,f1,f2,r1,r2,l1,l2,q⟩:=h;obtain⟨a1,a2,a3⟩:=lay_of l1;obtain⟨b1,b2,b3⟩:=lay_of l2;obtain⟨as,ra⟩:=mF I r1 rx a1;obtain⟨bs,rb⟩:=mF I r2 ry b1;rw[py] at rb b2 b3;simp only[PyData.canLay0] at b2;exact SeqAt.notIn_list_reads rb ra b2 a2 (by have:=Nat.min_le_right (PyData.depthAll (dO ds)) (py d1).depth;omega) ⟨.bl _,H,I,rfl,q⟩
theorem D0{K:PySem.W.Frag}:gC K (JJ K neg) (vY neg):=by
 exists 42;cases d2<;>try (cases e;done)
 rename_i ds;have e:(if(dw d1&&dw (.lst ds))=true then some (D.bl (if neg=true then !(dO ds).any λy=>PyData.eqv y (py d1) else(dO ds).any λy=>PyData.eqv y (py d1))) else none)=some d:=by cases d1<;>exact e
 by_cases hc:(dw d1&&dw (.lst ds))=true
 .rw[if_pos hc] at e;cases e;obtain⟨c1,c2⟩:=(abn _ _).mp hc;exact⟨d1,ds,f1,f2,r1,r2,c1,c2,k H _ (aH.refl H) (.bl _)⟩
 .rw[if_neg hc] at e;cases e
theorem aaw(hu:X.A.units+64<cLine)(ha:FP X a fa)(hb:FP X b fb)(hm:behindInMarks .In b=false:=by rfl):FT X (.Compare a [.In] [b] pos) (tV (e2 (vY false) fa fb)):=iY (Kn hu) D0 ha hb hm
theorem KE(hu:X.A.units+64<cLine)(ha:FP X a fa)(hb:FP X b fb)(hm:behindInMarks .NotIn b=false:=by rfl):FT X (.Compare a [.NotIn] [b] pos) (tV (e2 (vY true) fa fb)):=iY (Yt hu) D0 ha hb hm
theorem adn(hu:X.A.units+64<cLine)(ha:FP X a fa)(hb:FP X b fb)(hm:behindInMarks .In b=false:=by rfl):FP X (.Compare a [.In] [b] pos) (e2 (vY false) fa fb):=oB (Kn hu) D0 ha hb hm
theorem QS:FP X (.Dict [] [] pos) (eC (.cZ [])):=by
 refine⟨_,UH,@λH0 S z aq ρ σ H Q d tg ok e k p hp=>?_⟩;cases e;have s2:aH H (upd H p (.dT [])):=λb o e=>by rw[aP (cV e hp)];exact e
 exact k _ _ [p] s2 (.cZ cB rfl .nil) ⟨abV.mpr ⟨(λm=>by cases m),acj⟩,λa m=>by cases aa3.mp m;exact hp⟩
end Ev
end L2
namespace L2
open PySem PySem.W PyProof.Rows
structure oK(r:Nat->Nat->Bool)(n:Nat):Prop where
 tr:∀i j k,i<n->j<n->k<n->r i j=true->r j k=true->r i k=true
 tt:∀i j,i<n->j<n->i≠j->r i j=false->r j i=true
def jL(r:Nat->Nat->Bool)(p:Array Nat)(m:Nat):Prop:=∀i j,i<j->j<m->r (p.getD i 0) (p.getD j 0)=true
def xE(r:Nat->Nat->Bool)(p:Array Nat)(m:Nat):Prop:=∀i j,i<j->j<m->r (p.getD j 0) (p.getD i 0)=true
noncomputable abbrev bq(n:Nat)(p:Array Nat):Prop:=p.Perm (List.range n).toArray
section
variable{p:Array Nat}
theorem bq.sz(P:bq n p):p.size=n:=by rw[Array.Perm.size_eq P];simp
theorem getD_at(h:i<p.size):p.getD i 0=p[i]:=by simp[Array.getD,h]
theorem bq.lt(P:bq n p)(h:i<n):p.getD i 0<n:=by
 have hs:i<p.size:=by rw[bq.sz P];exact h
 rw[getD_at hs];have m:p[i]∈p.toList:=by simp
 have:=(agB.mp P).mem_iff.mp m;simpa using this
theorem bq.ne(P:bq n p)(hi:i<n)(hj:j<n)(h:i≠j):p.getD i 0≠p.getD j 0:=λe'=>by
 have hs:i<p.size:=by rw[bq.sz P];exact hi
 have cN:j<p.size:=by rw[bq.sz P];exact hj
 rw[getD_at hs,getD_at cN] at e';have nd:=(agB.mp P).nodup_iff.mpr (by simpa using List.nodup_range);have w:=ag6.mp nd;rcases Nat.lt_or_gt_of_ne h with q|q
 .exact w i j (by simpa using hs) (by simpa using cN) q (by simpa using e')
 .exact w j i (by simpa using cN) (by simpa using hs) q (by simpa using e'.symm)
def uS(cmp:Nat->Nat->(Bool->Shared->Prop)->Shared->Prop)(r:Nat->Nat->Bool)(n:Nat)(s:Shared):Prop:=∀i j C,i<n->j<n->C (r i j) s->cmp i j C s
theorem jL.snoc(T:oK r n)(P:bq n p)(h:jL r p m)(h1:1<=m)(hm:m<n)(h2:r (p.getD (m-1) 0) (p.getD m 0)=true):jL r p (m+1):=λi j a b=>by
 by_cases e:j=m
 .subst e
  by_cases e':i=j-1
  .subst e';exact h2
  .exact T.tr _ _ _ (bq.lt P (by lia)) (bq.lt P (by lia)) (bq.lt P (by lia)) (h i (j-1) (by lia) (by lia)) h2
 .exact h i j a (by lia)
theorem xE.snoc(T:oK r n)(P:bq n p)(h:xE r p m)(h1:1<=m)(hm:m<n)(h2:r (p.getD m 0) (p.getD (m-1) 0)=true):xE r p (m+1):=λi j a b=>by
 by_cases e:j=m
 .subst e
  by_cases e':i=j-1
  .subst e';exact h2
  .exact T.tr _ _ _ (bq.lt P (by lia)) (bq.lt P (by lia)) (bq.lt P (by lia)) h2 (h i (j-1) (by lia) (by lia))
 .exact h i j a (by lia)
theorem Hh(T:oK r n)(A:uS cmp r n s)(P:bq n p):∀(f m) {G},1<=m->m+f<=n->jL r p m->
  (∀m',m<=m'->m'<=m+f->jL r p m'->(m'=m+f\/r (p.getD m' 0) (p.getD (m'-1) 0)=true)->G m' s)->(kas_asc p f m).kasWp cmp G s
 |0,m,G,_,_,hs,g=>g m (abT _) (abT _) hs (.inl rfl)
 |f+1,m,G,h1,h2,hs,g=>by
  exists 68;cases c:r (p.getD m 0) (p.getD (m-1) 0) with
  |true=>exact g m (abT _) (by lia) hs (.inr c)
  |false=>
   exact Hh T A P f (m+1) (by lia) (by lia) (hs.snoc T P h1 (by lia) (T.tt _ _ (bq.lt P (by lia)) (bq.lt P (by lia)) (bq.ne P (by lia) (by lia) (by lia)) c)) λm' a b c d=>g m' (by lia) (by lia) c (by rw[show m+1+f=m+(f+1) by lia] at d;exact d)
theorem So(T:oK r n)(A:uS cmp r n s)(P:bq n p):∀(f m) {G},1<=m->m+f<=n->xE r p m->
  (∀m',m<=m'->m'<=m+f->xE r p m'->G (p,m',0) s)->(kas_desc f p m 0).kasWp cmp G s
 |0,m,G,_,_,hs,g=>g m (abT _) (abT _) hs
 |f+1,m,G,h1,h2,hs,g=>by
  exists 68;cases c:r (p.getD m 0) (p.getD (m-1) 0) with
  |true=>exact So T A P f (m+1) (by lia) (by lia) (hs.snoc T P h1 (by lia) c) λm' a b d=>g m' (by lia) (by lia) d
  |false=>
   exists 68;rw[T.tt _ _ (bq.lt P (by lia)) (bq.lt P (by lia)) (bq.ne P (by lia) (by lia) (by lia)) c];exact g m (abT _) (by lia) hs
theorem rev_getD(hm:m<=p.size)(h:i<m):(kas_rev p 0 m).getD i 0=p.getD (m-1-i) 0:=by
 have e:=getElem?_mirror_all (i:=0) hm i;rw[if_pos ⟨aes _,h⟩] at e;unfold kas_rev;rw[aeW,aeW,e]
 congr 2;lia
theorem ac8(T:oK r n)(A:uS cmp r n s)(P:bq n p)(h:1<=n)(g:∀m q,1<=m->m<=n->bq n q->jL r q m->G (m,q) s):(kas_count n p).kasWp cmp G s:=by
 unfold kas_count;rw[KasT.kasWp_bind];refine Hh T A P (n-1) 1 (abT _) (by lia) (λi j a b=>by lia) λm a b hs d=>?_
 by_cases e:m=n
 .subst e;rw[if_pos (by simp)];exact g m p a (abT _) P hs
 .rw[if_neg (by simpa using e)]
  by_cases e1:m > 1
  .rw[if_pos e1];exists 68;rw[hs 0 (m-1) (by lia) (by lia)];exact g m p a (by lia) P hs
  .rw[if_neg e1];obtain rfl:m=1:=by lia
   have d:=d.resolve_left (by lia);unfold kas_descPart;rw[KasT.kasWp_bind];refine So T A P (n - (1 + 1)) (1 + 1) (by lia) (by lia) (λi j a b=>by
    obtain⟨rfl,rfl⟩:i=0/\j=1:=by lia
    exact d) λm' a' b' hd=>?_
   dsimp only;rw[if_neg (by lia)];unfold kas_tail3;rw[KasT.kasWp_bind];have Q:bq n (kas_rev p 0 m'):=(mirror_perm _ _ _ _).trans P;refine Hh T A Q (n-m') m' (by lia) (by lia) (λi j a b=>?_) λm2 a2 b2 cJ _=>g m2 _ (by lia) (by lia) Q cJ
   rw[rev_getD (by rw[bq.sz P];lia) (by lia),rev_getD (by rw[bq.sz P];lia) (by lia)];exact hd _ _ (by lia) (by lia)
theorem EJ(T:oK r n)(A:uS cmp r n s)(P:bq n p)(hx:x<n)(hs:jL r p x):∀(f l u) {G},u-l<=f->u<=x->l<=u->(∀i,i<l->r (p.getD i 0) (p.getD x 0)=true)->(∀i,u<=i->i<x->r (p.getD x 0) (p.getD i 0)=true)->
  (∀l,l<=x->(∀i,i<l->r (p.getD i 0) (p.getD x 0)=true)->(∀i,l<=i->i<x->r (p.getD x 0) (p.getD i 0)=true)->G l s)->(kas_place p x f l u).kasWp cmp G s
 |0,l,u,G,h1,h2,h3,lo,hi,g=>g l (by lia) lo λi a b=>hi i (by lia) b
 |f+1,l,u,G,h1,h2,h3,lo,hi,g=>by
  unfold kas_place
  by_cases c:l >= u
  .rw[if_pos c];exact g l (by lia) lo λi a b=>hi i (by lia) b
  .rw[if_neg c];refine A _ _ _ (bq.lt P hx) (bq.lt P (by lia)) ?_;cases d:r (p.getD x 0) (p.getD ((l+u) / 2) 0) with
   |true=>
    refine EJ T A P hx hs f l ((l+u) / 2) (by lia) (by lia) (by lia) lo (λi a b=>?_) g
    by_cases e:i=(l+u) / 2
    .rw[e];exact d
    .exact T.tr _ _ _ (bq.lt P (by lia)) (bq.lt P (by lia)) (bq.lt P (by lia)) d (hs _ i (by lia) b)
   |false=>
    have d:=T.tt _ _ (bq.lt P (by lia)) (bq.lt P (by lia)) (bq.ne P (by lia) (by lia) (by lia)) d;refine EJ T A P hx hs f ((l+u) / 2+1) u (by lia) h2 (by lia) (λi a=>?_) hi g
    by_cases e:i=(l+u) / 2
    .rw[e];exact d
    .exact T.tr _ _ _ (bq.lt P (by lia)) (bq.lt P (by lia)) (bq.lt P (by lia)) (hs i _ (by lia) (by lia)) d
theorem RD(hx:x<p.size)(hl:l<=x):(bubble p x (x-l)).getD i 0=if i=l then p.getD x 0 else if l<i/\i<=x then p.getD (i-1) 0 else p.getD i 0:=by
 have e:=getElem?_bubble hx (x-l) (by lia) i;rw[show x-(x-l)=l by lia] at e;rw[aeW,e]
 by_cases h1:i=l
 .rw[if_pos h1,if_pos h1,aeW]
 .rw[if_neg h1,if_neg h1]
  by_cases h2:l<i/\i<=x
  .rw[if_pos h2,if_pos h2,aeW]
  .rw[if_neg h2,if_neg h2,aeW]
theorem OR(T:oK r n)(A:uS cmp r n s):∀(f) (p) (x) {G},bq n p->1<=x->x+f=n->jL r p x->(∀q,bq n q->jL r q n->G q s)->(kas_bin f p x).kasWp cmp G s
 |0,p,x,G,P,_,e,hs,g=>g p P (by rw[<- e];exact hs)
 |f+1,p,x,G,P,h1,e,hs,g=>by
  unfold kas_bin;rw[KasT.kasWp_bind];refine EJ T A P (by lia) hs x 0 x (by lia) (abT _) (aes _) (λi a=>by lia) (λi a b=>by lia) λl hl lo hi=>?_
  have hz:x<p.size:=by rw[bq.sz P];lia
  refine OR T A f _ (x+1) ((bubble_perm _ _ _).trans P) (by lia) (by lia) (λi j a b=>?_) g;rw[RD hz hl,RD hz hl]
  by_cases i1:i=l
  .rw[if_pos i1,if_neg (by lia),if_pos (by lia)];exact hi _ (by lia) (by lia)
  .rw[if_neg i1]
   by_cases j1:j=l
   .rw[if_pos j1,if_neg (by lia)];exact lo _ (by lia)
   .rw[if_neg j1]
    by_cases i2:l<i/\i<=x
    .rw[if_pos i2,if_pos (by lia)];exact hs _ _ (by lia) (by lia)
    .rw[if_neg i2]
     by_cases j2:l<j/\j<=x
     .rw[if_pos j2];exact hs _ _ (by lia) (by lia)
     .rw[if_neg j2];exact hs _ _ (by lia) (by lia)
theorem adj(T:oK r n)(A:uS cmp r n s)(h:1<=n)(g:∀q,bq n q->jL r q n->G q s):(kas_sort n).kasWp cmp G s:=by
 unfold kas_sort;rw[KasT.kasWp_bind];refine ac8 T A (Array.Perm.refl _) h λm q a b Q hs=>?_
 by_cases e:m<n
 .dsimp only;rw[if_pos e,Nat.max_eq_left a];exact OR T A _ q m Q a (by lia) hs g
 .dsimp only;rw[if_neg e];obtain rfl:m=n:=by lia
  exact g q Q hs
end
open PySem PySem.Spec PySem.W PyProof.Rows
noncomputable def lex(x y:Int×Int):Bool:=decide (x.1<y.1\/x.1=y.1/\x.2<y.2)
def IsPair(h:Heap)(q:Addr)(x:Int×Int):Prop:=∃t u,IsTup h q #[.int x.1 t,.int x.2 u]
theorem TU{pr:Nat->Int×Int}(h:∀i j,i<n->j<n->pr i=pr j->i=j):oK (λi j=>lex (pr i) (pr j)) n where
 tr:=λi j k _ _ _ a b=>by
  have a:=abd a;have b:=abd b;exact aa1 (by lia)
 tt:=λi j a b ne e=>by
  have e:=of_decide_eq_false e;have n2:¬((pr i).1=(pr j).1/\(pr i).2=(pr j).2):=λz=>ne (h i j a b (Prod.ext z.1 z.2))
  exact aa1 (by lia)
theorem ZT(hx:IsPair s.heap x a)(hy:IsPair s.heap y b)(h:Q (lex a b) s):wpAny (model prog w) A (keyLt' (tuples' true) (.ref x) (.ref y)) Q E s:=by
 obtain⟨t,u,o,h1,_,n,h2⟩:=hx;obtain⟨t',u',o',ie,_,n',mO⟩:=hy;refine kat_lt h1 h2 ie mO (kat_cons (wpAny_eqBool_int (kat_go (λe=>kat_yes (kat_cons (wpAny_eqBool_int (kat_go (λe2=>kat_yes (kat_nil ?_)) λe2=>kat_no (kat_one _ _ (lt_int ?_)))))) λe=>kat_no (oneLt_int ?_))))
 .have e:=eq_of_beq e;have e2:=eq_of_beq e2;have:lex a b=false:=abR (by omega);rw[this] at h;exact h
 .have e:=eq_of_beq e;have:lex a b=decide (a.2<b.2):=by unfold lex;congr 1;exact propext ⟨λz=>by omega,λz=>.inr ⟨e,z⟩⟩
  rw[this] at h;exact h
 .have e:=ne_of_beq_false e;have:lex a b=decide (a.1<b.1):=by unfold lex;congr 1;exact propext ⟨λz=>by omega,.inl⟩
  rw[this] at h;exact h
theorem MN:∀{qs} {ps},Paired (IsPair h) qs ps->∃fs,KatTups h (qs.map Value.ref) fs/\fs.length=qs.length/\∀v∈fs,∃i t,v=Value.int i t
 |_,_,.nil=>⟨[],.nil,rfl,λ_ m=>nomatch m⟩
 |_,_,.cons r t=>by
  obtain⟨fs,h1,h2,h3⟩:=MN t;obtain⟨t,u,o,e1,e2,n,e3⟩:=r;exact⟨_::fs,KatTups.cons e1 e2 e3 rfl h1,by rw[acf,acf,h2],λv m=>(abb.mp m).elim (λz=>⟨_,_,z⟩) (h3 v)⟩
theorem ac9{a kS:Addr}{vs:List Value}(l7:vs.length<64)(hl:qs.length=vs.length)(hp:Paired (IsPair s.heap) qs ps)(nd:ps.Nodup)
  (hk:s.heap.get? kS=some (seqObj "list" (qs.map Value.ref).toArray e)) (ha:s.heap.get? a=some (seqObj "list" #[] e1)) (ne:a≠kS)
  (h:∀q:Array Nat,bq vs.length q->jL (λi j=>lex (ps.getD i (0,0)) (ps.getD j (0,0))) q vs.length->
   P (.done (.ret .none)) { s with heap:=(s.heap.update kS (Obj.mapSeq λ_=>#[])).update a (Obj.mapSeq λ_=>(q.toList.map λi=>vs.getD i Value.none).toArray) }) :
  wpAny (model prog w) A (ksk_end a false vs.toArray e1 (.ref kS) (qs.map Value.ref).toArray) P E s:=by
 have Bh:(qs.map Value.ref).length=vs.length:=by rw[List.length_map];exact hl
 have tail:∀(st) (q),bq vs.length q->jL (λi j=>lex (ps.getD i (0,0)) (ps.getD j (0,0))) q vs.length->(arrOf st).map (·.2)=(q.toList.map λi=>vs.getD i Value.none).toArray->failedOf st=none->
   wpAny (model prog w) A (ksk_tail a false e1 (.ref kS) st) P E s:=by
  intro st q hq hs ho hf;have s1:=Heap.SameBut.update s.heap kS (Obj.mapSeq λ_=>(#[]:Array Value));have RU:=(s1.2 a ne).trans ha;unfold ksk_tail;dsimp only;refine aa7 (listUpdate_at hk rfl ?_ (by rw[ab2,Bh,aeV];lia) (aes _));refine aa7 (wpAny_letGo ?_);refine aa7 (seqEpoch_at RU rfl ?_);refine aa7 (listUpdate_at RU rfl ?_ (aes _) ?_)
  .rw[hf];simp only[bne_self_eq_false,agG,if_false];rw[ho];exact acD (h q hq hs)
  .simp only[agG,if_false];rw[ho,ab2,List.length_map,aeO,bq.sz hq,aeV];lia
 unfold ksk_end;dsimp only;rw[if_neg abz]
 by_cases h2:vs.toArray.size<2
 .rw[if_pos h2,if_pos h2];refine aa7 (acD ?_);rw[StateT.run_pure];refine aa7 (acD ?_);dsimp only;rw[ab2] at h2;refine tail _ (List.range vs.length).toArray (Array.Perm.refl _) (λi j a b=>by lia) ?_ rfl;have e:=kat_snds Bh (st:=kas_st general' ((qs.map Value.ref).toArray.zip vs.toArray) (List.range vs.length).toArray) rfl;have er:(List.range vs.length).toArray.map (kas_item ((qs.map Value.ref).toArray.zip vs.toArray))=(qs.map Value.ref).toArray.zip vs.toArray:=by
   have:=kas_range ((qs.map Value.ref).toArray.zip vs.toArray);rw[show((qs.map Value.ref).toArray.zip vs.toArray).size=vs.length by simp[hl]] at this;exact this
  rw[<- e];show((qs.map Value.ref).toArray.zip vs.toArray).map (·.2)=((List.range vs.length).toArray.map (kas_item ((qs.map Value.ref).toArray.zip vs.toArray))).map (·.2);rw[er]
 .rw[if_neg h2,if_neg h2];rw[ab2] at h2;obtain⟨fs,k1,k2,k3⟩:=MN hp;refine aa7 (kat_kind k1 (by lia) (λv m=>by obtain⟨i,t,rfl⟩:=k3 v m;exact Looks.of_pure rfl) (by decide) ?_);refine aa7 (adU (kat_run (Q:=λst s'=>s'=s/\∃q:Array Nat,bq vs.length q/\jL (λi j=>lex (ps.getD i (0,0)) (ps.getD j (0,0))) q vs.length/\(arrOf st).map (·.2)=(q.toList.map λi=>vs.getD i Value.none).toArray/\failedOf st=none)
   (G:=λq s'=>s'=s/\bq vs.length q/\jL (λi j=>lex (ps.getD i (0,0)) (ps.getD j (0,0))) q vs.length) Bh (by lia) l7 (λq nI s' _ ha hf g=>⟨g.1,q,g.2.1,g.2.2,kat_snds Bh ha,hf⟩) ?_) ?_ λ_ _ z=>z)
  .have lp:ps.length=vs.length:=by rw[<- Paired.length hp];exact hl
   refine adj (TU λi j a b e=>?_) (λi j C hi hj hc=>?_) (by lia) λq a b=>⟨rfl,a,b⟩
   .have ei:i<ps.length:=by lia
    have ej:j<ps.length:=by lia
    simp only[adu,abp ei,abp ej,ag7] at e;have w:=ag6.mp nd;rcases Nat.lt_trichotomy i j with q|q|q
    .exact absurd e (w i j ei ej q)
    .exact q
    .exact absurd e.symm (w j i ej ei q)
   .have at_:∀i,i<vs.length->∃x,(qs.map Value.ref).getD i Value.none=.ref x/\IsPair s.heap x (ps.getD i (0,0)):=λi hi=>by
     have lq:i<qs.length:=by lia
     have N9:i<ps.length:=by lia
     refine⟨qs[i],by simp[adu,lq],?_⟩;rw[adu,abp N9,ag7];have go:∀{qs} {ps},Paired (IsPair s.heap) qs ps->∀(i) (a) (b:i<ps.length),IsPair s.heap qs[i] ps[i]:=by
      intro qs ps r
      induction r with
      |nil=>intro i a;exact absurd a (Nat.not_lt_zero _)
      |cons r t ih=>intro i a b;cases i with
       |zero=>exact r
       |succ i=>exact ih i (by simpa using a) (by simpa using b)
     exact go hp i lq N9
    obtain⟨x,ex,hx⟩:=at_ i hi;obtain⟨y,ey,hy⟩:=at_ j hj;show wpAny (model prog w) A (keyLt' _ ((qs.map Value.ref).getD i Value.none) ((qs.map Value.ref).getD j Value.none)) C _ s;rw[ex,ey];exact ZT hx hy hc
  .rintro⟨⟨⟩,st⟩ s' ⟨rfl,q,h1,h3,h4,h5⟩
   exact tail st q h1 h3 h4 h5
theorem BO:∀{K:PySem.W.Frag},K.lookup a=some o->(a,o)∈K
 |[],h=>by cases h
 |(b,u)::r,h=>by
  by_cases e:(a==b)=true
  .simp only[List.lookup,e] at h;cases h;rw[eq_of_beq e];exact aar
  .simp only[List.lookup,(by simpa using e:(a==b)=false)] at h;exact aaa _ (BO h)
theorem Vn(I:Inv X af σ H s)(lk:X.K.lookup f0=some o0)(sh:vX o0=some (cv,q,jY)):∃cc P,cv=.ref cc/\codeHdIn X.K cc P=true/\H P=some (.iw q jY):=by
 obtain⟨bG,ok⟩:=(abn _ _).mp I.hq.ok;have bG:=ada.mp ((abn _ _).mp bG).2 (f0,o0) (BO lk);have bG:=bG;rw[sh] at bG;obtain⟨⟨cc,P,q',pos'⟩,e⟩:=agt.mp (show(Am X.K (f0,o0)).isSome=true from bG);have hm:(cc,P,q',pos')∈jc X.K:=agr.mpr ⟨_,BO lk,e⟩;have e':=e;unfold Am at e';dsimp only at e';rw[sh] at e'
 split at e'
 .rename_i h;cases h
  split at e'
  .split at e'
   .cases e';refine⟨cc,P,rfl,?_,I.hq.lm _ hm⟩
    split at ok
    .rename_i e;rw[e] at hm;cases hm
    .rename_i r e;rw[e] at hm;cases aa3.mp hm;exact((abn _ _).mp ok).1
    .cases ok
   .cases e'
  .cases e'
 .cases e'
theorem aaO(I:Inv X af σ H s)(lk:X.K.lookup f0=some o0)(sh:vX o0=some (X.env.code,q,jY))(wK:defaultsOf args X.env=([],[]))(vO:closureFor sc X.env=pure nU)(hq:X.env.qual++"<lambda>"=q)
  (h:∀f c' iR pm H' s',Inv X ((f,kla_obj "<lambda>" q args body sc nU pm c' iR)::af) σ H' s'->aH H H'->H' c'=some (.jb q)->Q (.ref f) s'):wpAny (model X.prog X.w) A (eval (.Lambda args body sc jY) X.env) Q E s:=by
 refine kla_eval wK ?_;rw[hq];obtain⟨cc,P,OB,hc,hP⟩:=Vn I lk sh;obtain⟨ps,eP,pJ⟩:=I.aE P _ hP;have C:=codeHd_of_K I.c8 hc;have g:=I.ok.mod.glob.keeps I.bk;obtain⟨bm,ob,b1,b2,b3,b4,b5,b6⟩:=I.ok.mod.bmn;have nP:∀{b} {o},X.base.get? b=some o->b≠P:=λ{b o} e z=>by
  have:=(I.bs b o e).2;rw[z,hP] at this;cases this
 obtain⟨om,es,ep,em,dm,_⟩:=id I.ok.mod.glob;have hb:s.heap.BuiltinsAt X.mg P:=⟨bm,ob,b1,b2,(λz=>by rw[z,em] at b3;cases b3;rw[dm] at b6;cases b6),nP b3,I.bk _ _ b3,b4,b5,b6⟩
 have fin:∀(f) (o) (H') (s'),Inv X af σ H' s'->s'.heap.get? f=some o->s.heap.objs.size<=f->H' f=none->(∀v,o.data≠.cell v)->Inv X ((f,o)::af) σ H' s':=λf o H' s' J e hf hn hd=>by
  refine J.tX λp hp=>?_
  rcases abb.mp hp with rfl|hp
  .exact⟨e,hn,agw (acU I.lt hf),I.LN hf,hd⟩
  .exact J.pin p (aaV _ hp)
 rcases pJ with rfl|⟨c',rfl,tL⟩
 .refine kla_makeFunction vO I.ok.glob g OB C eP trivial rfl (nP em) hb λc' iR h' tk hx B8 cU adv Mv=>?_
  have fc:=I.aE.fresh B8;have ff:=I.aE.fresh (afk (agF B8 cU));have up:∀{b} {o},H b=some o->upd H c' (.jb q) b=some o:=λ{b o} e=>by rw[aP (cV e fc)];exact e
  have pu:∀(b) (o),b≠P->s.heap.get? b=some o->(h'.push (kla_obj "<lambda>" q args body sc nU ((X.mg "__name__").getD .none) c' iR)).get? b=some o:=λb o n e=>aaT _ (hx b o n e)
  have Ma:∀{b},H b=none->b≠P:=λ{b} e z=>by rw[z,hP] at e;cases e
  have J:Inv X af σ (upd H c' (.jb q)) { s with heap:=h'.push (kla_obj "<lambda>" q args body sc nU ((X.mg "__name__").getD .none) c' iR),toks:=tk }:=by
   refine I.un ⟨λb o e n _ _=>pu b o (Ma n) e,λb o e n _ _=>⟨o.slots,pu b o (Ma n) e⟩,λb o e n _=>?_,λb o e _=>?_,λb t e=>up e,λb o u e=>up e,λb ps e=>⟨#[],by rw[up e];simp⟩⟩ λa o e=>?_
   .rw[aP (acI (acU (abM e) B8))];exact n
   .by_cases z:b=P
    .rw[z];exact⟨_,aaT _ Mv⟩
    .exact⟨o,pu b o z e⟩
   .by_cases z:a=c'
    .subst z;rw[cB] at e;cases e;exact adv.push _
    .rw[aP z] at e
     by_cases z2:a=P
     .subst z2;rw[hP] at e;cases e;exact⟨_,aaT _ Mv,.inr ⟨c',by simp,cB⟩⟩
     .refine(I.aE a o e).gx (λb u xB q=>pu b u ?_ q) (λb q=>up q) λb t q=>up q
      rcases xB with z3|z3
      .rw[z3];exact z2
      .intro z4;rw[z4,hP] at z3;cases z3
  refine h _ c' iR _ _ _ (fin _ _ _ _ J (ab3 _ rfl) (afk (agF B8 cU)) ?_ (λv z=>by cases z)) (λb o e=>up e) cB;rw[aP (agw cU)];exact ff
 .refine kla_makeFunctionHit vO I.ok.glob g OB C eP (TriplesOk_snoc _ _ _ [] trivial) (codeAmong_snoc [] trivial rfl) hb λiR h' tk hk hsz=>?_
  exact h _ c' iR _ H _ (fin _ _ _ _ (I.kept λb u e=>aaT _ (hk b u e)) (ab3 _ rfl) hsz (I.aE.fresh hsz) λv z=>by cases z) (aH.refl H) tL
noncomputable def sN(X:Cx)(A:Around)(x y:Str)(q:Str)(sc:Scope)(f:Addr)(cd:Value)(nU:List (Str×Addr))(s:Shared)(H:Hp):Cx where
 prog:=X.prog
 w:=X.w
 K:=X.K
 mg:=X.mg
 base:=X.base
 A:=A.deeper (envX q sc s.heap.objs.size f cd nU)
 N:=[x,y]
 cG:=s
 uh:=H
 env:=envX q sc s.heap.objs.size f cd nU
 outer:=X.stack
 stack:=envX q sc s.heap.objs.size f cd nU::X.stack
 ex:=[]
 fn:=λ_=>false
 calm:=X.calm
 pn:=[]
 xe:=λ_ _=>False
structure Bc(sc:Scope)(args:Arguments)(x y:Str):Prop where
 kind:sc.kind=.function
 co:sc.isCoroutine=false
 gen:sc.isGenerator=false
 yx:∀z∈sc.names,z.2≠.cell
 loc:sc.names.lookup x=some .local
 v9:sc.names.lookup y=some .free
 one:∀z∈sc.names,z.2=.free->z.1=y
 bnd:∀(q) (body) (nU) (pm aR iR u),bindArgs (kla_fn "<lambda>" q args body sc nU pm aR iR) ⟨[u],[]⟩=pure [(x,u)]
theorem abg{j:Nat}(I:Inv X af σ H s)(S:Bc sc args x y)(hf:(f,kla_obj "<lambda>" q args body sc [(y,c)] pm c' iR)∈af)(hc:H c'=some (.jb q))
  (o6:X.env.cells.lookup y=some c) (hj:X.N[j]? = some y) (hv:σ[j]? = some (some v1)) (qo:X.env.scope.names.lookup y=some .cell) (ru:RelV v0 u) (hA:A.frames=X.A.frames) (hh:A.handled=X.A.handled) (hr:A.depth<recursionLimit)
  (hb:PE (sN X A x y q sc f (.ref c') [(y,c)] s H) body te) (h:te [some v0,some v1] H Q):wpAny (model X.prog X.w) A (call (.ref f) [u]) (EP X af σ Q) E s:=by
 have Y9:=(I.pin _ (aaV _ hf)).1;refine wpAny_call (codeAny_mono (R:=λr s'=>match r with|.ok (.ret v)=>CE X.stack X.prog X.w H s Q v s'|_=>False) ?_ λr s' z=>?_)
 .refine kla_callFunE hr Y9 rfl S.co S.gen rfl (I.aE c' _ hc) ?_;rw[S.bnd];refine acD (wpAny_newFunctionEnv S.yx (λz m=>by cases aa3.mp m;exact S.loc) (λzO uf E1=>?_) S.kind);have zI:∀b o,s.heap.get? b=some o->zO.get? b=some o:=λb o e=>E1.extBut b o (acI (abM e)) (aaT _ e)
  refine⟨(I.ok.mod.nolimit.keeps I.bk).keeps zI,?_⟩;have cl:∀{z} {d},List.lookup z [(y,c)]=some d->z=y/\d=c:=λ{z d} e=>by
   by_cases w:(z==y)=true
   .simp only[List.lookup,w] at e;cases e;exact⟨eq_of_beq w,rfl⟩
   .simp only[List.lookup,(by simpa using w:(z==y)=false)] at e;cases e
  have cy:List.lookup y [(y,c)]=some c:=by simp[List.lookup]
  have sC:∀b:Addr,b∉(sN X A x y q sc f (.ref c') [(y,c)] s H).ex:=λb z=>absurd (show b∈([]:List Addr) from z) (by simp)
  have J:Inv (sN X A x y q sc f (.ref c') [(y,c)] s H) [] [some v0,some v1] H { s with heap:=zO,toks:=s.toks+[(x,u)].length }:=by
   refine⟨⟨I.ok.mod,S.kind,rfl,rfl,abT _,λa b d h1 h2=>?_,λa ha=>?_,(λa d h _=>by cases h),λhc=>?_,Around.frames_deeper (hA.trans I.ok.frames),.inr ⟨rfl,rfl⟩,λb z=>absurd z (sC b),I.bs,adE I.ok.i_ I.sz,λb _ _=>sC b,λb z=>absurd z (sC b),I.stack,I.vR⟩,
    rfl,I.bare,Un.kept zI,⟨_,uf,λi z v h1 h2 h3=>?_⟩,λz d e=>?_,I.aE.fresh (abT _),λz d e=>?_,λp hp=>absurd (show p∈([]:List (Addr×Obj)) from hp) (by simp),I.aE.kept zI,rfl,⟨?_,I.hq.ok,I.hq.lm⟩⟩
   .exact(cl h1).1.trans (cl h2).1.symm
   .have ha:=ha;rcases ha with ha|ha
    .exact absurd rfl (S.yx _ (PySem.mem_of_lookup ha))
    .have e:a=y:=S.one _ (PySem.mem_of_lookup ha) rfl;rw[e];exact⟨c,cy⟩
   .have:=I.ok.hd hc;exact hh.trans this
   .match i,h1,h2 with
    |0,h1,h2=>
     cases h1;cases h2;refine⟨u,ru,.inl ⟨S.loc,by simp[List.lookup]⟩⟩
    |1,h1,h2=>
     cases h1;cases h2;obtain⟨m,_,hl⟩:=I.loc;obtain⟨u1,r1,l⟩:=hl j y v1 hj hv (.inr (.inl qo));refine⟨u1,r1,.inr ⟨.inr S.v9,c,cy,?_⟩⟩;rcases l with⟨kk,_⟩|⟨_,d,e,o,ho,hd⟩
     .rw[show X.env.kindOf y=some .cell from qo] at kk;cases kk
     .rw[o6] at e;cases e;exact⟨o,zI _ _ ho,hd⟩
    |i+2,h1,h2=>exact absurd h2 (by simp)
   .rw[(cl e).2];obtain⟨w,o,ho,hd⟩:=I.cell y c o6;exact⟨w,o,zI _ _ ho,hd⟩
   .rw[(cl e).2];exact I.gS y c o6
   .have:=I.hq.hd;unfold rX at this ⊢;rw[show(sN X A x y q sc f (.ref c') [(y,c)] s H).A.handled=X.A.handled from hh];exact this
  refine kla_codeExpr (adU (hb [] _ _ H _ J h) (λv s' ⟨v',H',J',rv,q'⟩=>?_) λ_ _ z=>z.elim);exact⟨v',H',J'.os,J'.bare,J'.base,J'.aE,rv,q'⟩
 .cases r with
  |error e=>exact z.elim
  |ok fl=>
   cases fl with
   |ret w=>exact I.after z
   |next=>exact z
   |brk=>exact z
   |cont=>exact z
theorem aci(r:aU [.int a,.int b] au):∃t u,au=[.int a t,.int b u]:=by
 cases r with
 |cons h1 r=>cases r with
  |cons h2 r=>cases r;obtain⟨t,rfl⟩:=h1;obtain⟨u,rfl⟩:=h2;exact⟨t,u,rfl⟩
theorem IntsAre.at{vs:List Value}{ns:List Int}(h:IntsAre vs ns):∀{j:Nat} {v},vs[j]? = some v->∃n t,ns[j]? = some n/\v=.int n t:=by
 induction h with
 |nil=>intro j v e;simp at e
 |cons n t _ ih=>
  intro j v e;cases j with
  |zero=>cases e;exact⟨n,t,rfl,rfl⟩
  |succ j=>exact ih (by simpa using e)
theorem Paired.Tp{α β:Type}{R:α->β->Prop}{l:List α}{m:List β}{a:α}{b:β}(h:Paired R l m)(r:R a b):Paired R (l++[a]) (m++[b]):=by
 induction h with
 |nil=>exact .cons r .nil
 |cons r' _ ih=>exact .cons r' ih
theorem Lr(h:IntsAre au ns):∀(l:List Nat),(∀i∈l,i<ns.length)->aU ((l.map λi=>ns.getD i 0).map V.int) (l.map λi=>au.getD i Value.none)
 |[],_=>.nil
 |i::l,hl=>by
  have hi:=hl i aar;have KO:i<au.length:=by rw[h.length];exact hi
  obtain⟨n,t,e1,e2⟩:=IntsAre.at h (abp KO);refine .cons ?_ (Lr h l λj m=>hl j (aaa _ m));show RelV (V.int (ns.getD i 0)) (au.getD i Value.none);rw[adu,adu,e1,abp KO,e2];exact⟨t,rfl⟩
theorem VS{ns:List Int}{q:Array Nat}(P:bq ns.length q):(q.toList.map λi=>ns.getD i 0).Perm ns:=by
 have h:=(agB.mp P).map λi=>ns.getD i 0
 have e:((List.range ns.length).toArray.toList.map λi=>ns.getD i 0)=ns:=by
  refine List.ext_getElem (by simp) λi h1 h2=>?_
  simp[adu,h2]
 rw[e] at h;exact h
section
variable{j:Nat}{te:Addr->Addr->Shared->Hp->TE}
theorem Vz{H2:Hp}{p f c':Addr}{iR pm:Value}{v1:V}{ns:List Int}{pr:Int->Int×Int}{Q:VK}(I:Inv X ((f,kla_obj "<lambda>" q args body sc [(y,c)] pm c' iR)::af) σ H2 s)(S:Bc sc args x y)(hc:H2 c'=some (.jb q))
  (o6:X.env.cells.lookup y=some c) (hj:X.N[j]? = some y) (hv:σ[j]? = some (some v1)) (qo:X.env.scope.names.lookup y=some .cell) (x8:X.A.in1.in1.depth<recursionLimit)
  (hb:∀f c' s H,PE (sN X X.A.in1.in1 x y q sc f (.ref c') [(y,c)] s H) body (te f c' s H)) (hq:bZ X.K H2 p (ns.map V.int)) (l7:ns.length<64) (nd:(ns.map pr).Nodup)
  (ht:∀s H3,aH H2 H3->∀n∈ns,te f c' s H3 [some (.int n),some v1] H3 λv H4=>∃k,v=.ref k/\ck X.K H4 k [.int (pr n).1,.int (pr n).2]/\aH H3 H4)
  (hQ:∀(Hf) (D) (eB:List Int),aH H2 Hf->H2 D=none->Hf D=some (.lst (eB.map V.int))->eB.Perm ns->eB.Pairwise (λa b=>lex (pr a) (pr b)=true)->Q (.ref D) Hf) :
  Y1 X X.A (call (.builtin "sorted") [.ref p] [(Str.ofString "key",.ref f)]) (EP X af σ Q) X.xe s:=by
 obtain⟨au,ri,pl,hz⟩:=I.list hq;have hi:=intsAre_of ri;have li:=hi.length;have zl:au.length<=sizeLine:=by rw[aeV];lia
 refine call_function_entry_kw kind_sorted plain_sorted entry_sorted (ksk_s1 _ _) ?_;unfold Builtin.«sorted»;refine aa7 (acD ?_);refine aa7 (collect_list pl.isList ?_ zl);refine aa7 (wpAny_newList ?_ zl);generalize R3:(s.heap.push (seqObj "list" #[] 0)).update s.heap.objs.size (Obj.mapSeq (·++au.toArray))=h3;have k3:∀b o,s.heap.get? b=some o->h3.get? b=some o:=λb o e=>by
  rw[<- R3,agA _ _ _ _ (acI (abM e))];exact aaT _ e
 have z3:h3.objs.size=s.heap.objs.size+1:=by rw[<- R3,Heap.size_update,size_push']
 have hD:(h3.push (seqObj "list" au.toArray 0)).get? h3.objs.size=some (seqObj "list" au.toArray 0):=ab3 _ rfl;refine aa7 (afp (wpAny_call_entry_kw slot_list_sort ⟨_,hD,rfl⟩ entry_list_sort ?body (ksk_l1 _ _)))
 case body=>
  rw[ksk_t1];obtain⟨e1,RT⟩:∃e1,((h3.push (seqObj "list" au.toArray 0)).update h3.objs.size (Obj.mapSeq λ_=>(#[]:Array Value))).get? h3.objs.size=some (seqObj "list" #[] e1):=⟨_,get?_update_seq hD λ_=>#[]⟩
  unfold ksk_tree;refine aa7 (listItems_at hD rfl ?_);refine aa7 (listUpdate_at hD rfl ?_ (by rw[ab2];exact zl) (aes _));refine aa7 (seqEpoch_at RT rfl ?_);refine aa7 (wpAny_newTuple ?_ (by show au.length<=_;exact zl));refine aa7 (wpAny_newList ?_ (aes _));refine afp ?_;generalize F6:((h3.push (seqObj "list" au.toArray 0)).update h3.objs.size (Obj.mapSeq λ_=>(#[]:Array Value))).push (seqObj "tuple" au.toArray 0)=h6;have z6:h6.objs.size=s.heap.objs.size+3:=by rw[<- F6,size_push',Heap.size_update,size_push',z3]
  have k6:∀b o,s.heap.get? b=some o->h6.get? b=some o:=λb o e=>by
   have cU:=abM e;rw[<- F6];refine aaT _ ?_;rw[agA _ _ _ _ (acI (acU cU (by rw[z3];exact ahi _)))];exact aaT _ (k3 b o e)
  have hD6:h6.get? h3.objs.size=some (seqObj "list" #[] e1):=by rw[<- F6];exact aaT _ RT
  generalize hDe:h3.objs.size=D at *;generalize hKe:h6.objs.size=kS at *;have fD:=I.sW (H':=λ_=>none) (b:=D) (by lia) rfl;have fK:=I.sW (H':=λ_=>none) (b:=kS) (by lia) rfl;have GR:D≠kS:=by lia
  have DO:∀{H:Hp}{s':Shared} {b} {o},iQ X ((f,kla_obj "<lambda>" q args body sc [(y,c)] pm c' iR)::af) (λ_=>none) b->H b=none->s'.heap.get? b=some o->(∀v,o.data≠.cell v)->
    s'.heap.get? b=some o/\H b=none/\b≠X.env.locals/\b∉X.fs/\∀v,o.data≠.cell v:=λF a b d=>⟨b,a,F.2.1,F.2.2.1,d⟩
  have J0:Inv X ((kS,seqObj "list" (List.map Value.ref []).toArray 0)::(D,seqObj "list" #[] e1)::(f,kla_obj "<lambda>" q args body sc [(y,c)] pm c' iR)::af) σ H2 { s with heap:=h6.push (seqObj "list" #[] 0) }:=by
   have J:=I.kept (h':=h6.push (seqObj "list" #[] 0)) (t':=s.toks) λb o e=>aaT _ (k6 b o e)
   refine J.tX λp hp=>?_
   rcases abb.mp hp with rfl|hp
   .exact DO fK (I.aE.fresh (by lia)) (by rw[<- hKe];exact ab3 _ rfl) (λv z=>by cases z)
   .rcases abb.mp hp with rfl|hp
    .exact DO fD (I.aE.fresh (by lia)) (aaT _ hD6) (λv z=>by cases z)
    .exact J.pin p (aaV _ hp)
  unfold ksk_rest;refine aa7 (wpAny_rule ?_);rw[List.forIn_toArray];refine aa7 (ksk_fold (λi s'=>∃(H:Hp) (qs:List Addr) (e:Nat),Inv X ((kS,seqObj "list" (qs.map Value.ref).toArray e)::(D,seqObj "list" #[] e1)::(f,kla_obj "<lambda>" q args body sc [(y,c)] pm c' iR)::af) σ H s'/\aH H2 H/\
   Paired (λk n=>ck X.K H k [.int (pr n).1,.int (pr n).2]) qs (ns.take i)) au 0 _ ⟨H2,[],0,J0,aH.refl _,.nil⟩ (λi u s' hu hI=>?_) λs' hI=>?_)
  .rw[aha] at hI ⊢;obtain⟨H,qs,e,J,sm,pd⟩:=hI;obtain⟨n,t,en,rfl⟩:=IntsAre.at hi hu;have ln:=Paired.length pd;have uO:=(abL.mp en).1;rw[agQ] at ln;refine aa7 (wpAny_attempt (adU (abg (v0:=.int n) (E:=λ_ _=>False) J S (aaa _ (aaa _ aar)) (sm _ _ hc) o6 hj hv qo ⟨t,rfl⟩ rfl rfl x8 (hb f c' s' H) (ht s' H sm n (aeL en))) (λk gY hk=>?_) λ_ _ z=>z.elim));obtain⟨v,H',J',rv,k',rfl,sq,zo⟩:=hk;obtain rfl:k=.ref k':=rv;have pk:=(J'.pin _ (aaV _ aar))
   have ea:((qs.map Value.ref).toArray).push (.ref k')=((qs++[k']).map Value.ref).toArray:=by simp
   obtain⟨c2,JB⟩:∃c2,(gY.heap.update kS (Obj.mapSeq (·.push (.ref k')))).get? kS=some (seqObj "list" ((qs++[k']).map Value.ref).toArray c2):=⟨_,by rw[<- ea];exact get?_update_seq pk.1 (·.push (.ref k'))⟩
   dsimp only;refine aa7 (listUpdate_at pk.1 rfl ?_ (by rw[ab2,List.length_map,ln,aeV];lia) (adE (Nat.le_of_eq (Array.size_push ..)) (by rw[ab2,List.length_map,ln,aeV];lia)));refine acD ⟨rfl,H',qs++[k'],c2,?_,sm.trans zo,?_⟩
   .have J1:=J'.tX λp hp=>J'.pin p (aaV _ (aaa _ hp))
    have J2:=J1.turned (h':=gY.heap.update kS (Obj.mapSeq (·.push (.ref k')))) (t':=gY.toks) (λb o n e=>(agA _ _ _ _ n).trans e) pk.2.1 fK.2.1 fK.2.2.2.1 fK.2.2.2.2.1 λp hp=>by
     rcases abE.mp hp with hp|hp
     .exact fK.2.2.2.2.2 p (abq _ hp)
     .rcases abb.mp hp with rfl|hp
      .exact GR
      .exact fK.2.2.2.2.2 p (aaV _ hp)
    refine J2.tX λp hp=>?_
    rcases abb.mp hp with rfl|hp
    .exact DO fK pk.2.1 JB (λv z=>by cases z)
    .exact J2.pin p (aaV _ hp)
   .rw[List.take_succ,en];exact Paired.Tp (Paired.Cb pd λk n r=>by
     rcases r with(r|⟨o,r⟩)|r
     .exact .inl (.inl (zo _ _ r))
     .exact .inl (.inr ⟨o,zo _ _ r⟩)
     .exact .inr r) sq
  .rw[aha] at hI;obtain⟨H,qs,e,J,sm,pd⟩:=hI;rw[li,List.take_length] at pd;have lq:=Paired.length pd;have pk:=(J.pin _ (aaV _ aar))
   have pD:=(J.pin _ (aaV _ (aaa _ aar)))
   refine aa7 (listItems_at pk.1 rfl ?_);have pp:∀{l} {qs},Paired (λk n=>ck X.K H k [.int (pr n).1,.int (pr n).2]) qs l->Paired (IsPair s'.heap) qs (l.map pr):=by
    intro l qs r
    induction r with
    |nil=>exact .nil
    |cons r _ ih=>
     refine .cons ?_ ih;obtain⟨it,rv,tp,_⟩:=J.tuple r;obtain⟨t,u,rfl⟩:=aci rv;exact⟨t,u,tp⟩
   refine ac9 (by lia) (by rw[lq,li]) (pp pd) nd pk.1 pD.1 GR λq2 P2 S2=>?_
   rw[li] at P2 S2;have ql:∀i∈q2.toList,i<ns.length:=λi m=>by
    have:=(agB.mp P2).mem_iff.mp m;simpa using this
   refine⟨_,rfl,acD ⟨_,rfl,?_⟩⟩;have J1:=J.tX λp hp=>J.pin p (aaV _ (aaa _ (aaa _ (aaa _ hp))))
   have np:∀{b},iQ X ((f,kla_obj "<lambda>" q args body sc [(y,c)] pm c' iR)::af) (λ_=>none) b->∀p∈X.pn++af,p.1≠b:=λF p hp=>F.2.2.2.2.2 p ((abE.mp hp).elim (λz=>abq _ z) λz=>aaV _ (aaa _ z))
   have J2:=J1.turned (h':=s'.heap.update kS (Obj.mapSeq λ_=>#[])) (t':=s'.toks) (λb o n e=>(agA _ _ _ _ n).trans e) pk.2.1 fK.2.1 fK.2.2.2.1 fK.2.2.2.2.1 (np fK);have J3:=J2.turned (h':=(s'.heap.update kS (Obj.mapSeq λ_=>#[])).update D (Obj.mapSeq λ_=>(q2.toList.map λi=>au.getD i Value.none).toArray)) (t':=s'.toks) (λb o n e=>(agA _ _ _ _ n).trans e) pD.2.1 fD.2.1 fD.2.2.2.1 fD.2.2.2.2.1 (np fD);have Ud:=get?_update_seq (h:=s'.heap.update kS (Obj.mapSeq λ_=>#[])) ((agA _ _ _ _ GR).trans pD.1) λ_=>(q2.toList.map λi=>au.getD i Value.none).toArray
   refine⟨.ref D,upd H D (.lst ((q2.toList.map λi=>ns.getD i 0).map V.int)),J3.Cf pD.2.1 ⟨?_,fD.2.1,fD.2.2.2.2.1,np fD⟩ ⟨?_,_,_,Lr hi _ ql,Ud⟩,rfl,hQ _ D _ (λb o e=>?_) ?_ cB (VS P2) ?_⟩
   .exact ag1 (by have:=I.sz;lia)
   .rw[List.length_map,List.length_map,aeO,bq.sz P2,aeV];lia
   .rw[aP (cV (sm b o e) pD.2.1)];exact sm b o e
   .cases e:H2 D with
    |none=>rfl
    |some o=>have:=sm D o e;rw[pD.2.1] at this;cases this
   .rw[ag6];intro i k hi hk Z2;have hq:∀i,i<ns.length->(hx:i<(q2.toList.map λi=>ns.getD i 0).length)->pr ((q2.toList.map λi=>ns.getD i 0)[i])=(ns.map pr).getD (q2.getD i 0) (0,0):=λi hi hx=>by
     have hs:i<q2.size:=by rw[bq.sz P2];exact hi
     have cU:=bq.lt P2 hi;rw[List.getElem_map,getD_at hs];rw[getD_at hs] at cU;simp[adu,cU]
    have hz:(q2.toList.map λi=>ns.getD i 0).length=ns.length:=by rw[List.length_map,aeO,bq.sz P2]
    rw[hq i (by lia) hi,hq k (by lia) hk];exact S2 i k Z2 (by lia)
def Nu(K:PySem.W.Frag)(j:Nat)(te:Addr->Addr->Shared->Hp->TE)(σ:St)(Q:VK)(x:V)(H1:Hp):Prop:=∃(p:Addr) (ns:List Int) (pr:Int->Int×Int) (v1:V),x=.ref p/\bZ K H1 p (ns.map V.int)/\ns.length<64/\(ns.map pr).Nodup/\σ[j]? = some (some v1)/\
 (∀f c' s H3,aH H1 H3->∀n∈ns,te f c' s H3 [some (.int n),some v1] H3 λv H4=>∃k,v=.ref k/\ck K H4 k [.int (pr n).1,.int (pr n).2]/\aH H3 H4)/\
 ∀(Hf) (D) (eB:List Int),aH H1 Hf->H1 D=none->Hf D=some (.lst (eB.map V.int))->eB.Perm ns->eB.Pairwise (λa b=>lex (pr a) (pr b)=true)->Q (.ref D) Hf
def tSK(K:PySem.W.Frag)(j:Nat)(ta:TE)(te:Addr->Addr->Shared->Hp->TE):TE:=λσ H Q=>ta σ H (Nu K j te σ Q)
theorem WU(hm:X.mg "sorted"=none)(ha:PE X a ta)(S:Bc sc args x y)(lk:X.K.lookup f0=some o0)(sh:vX o0=some (X.env.code,q,jY))(hq:X.env.qual++"<lambda>"=q)(vO:closureFor sc X.env=pure [(y,c)])
  (o6:X.env.cells.lookup y=some c) (hj:X.N[j]? = some y) (qo:X.env.scope.names.lookup y=some .cell) (x8:X.A.in1.in1.depth<recursionLimit) (hb:∀f c' s H,PE (sN X X.A.in1.in1 x y q sc f (.ref c') [(y,c)] s H) body (te f c' s H))
  (wK:defaultsOf args X.env=([],[]):=by rfl) (hg:Gl X "sorted":=by rfl) (hs:Y2 X a:=by rfl)
  (h1:backTo pos (starEach [a] X.env)=(false,eval a X.env)::backTo pos (starEach [] X.env):=by rfl) (h2:(backTo pos (starEach [a] X.env)).any (·.1)=false:=by rfl)
  (h3:(backToKw pos (keywordEach [⟨some "key",.Lambda args body sc jY,kp⟩] X.env)).all (·.1.isSome)=true:=by rfl) (h4:(backToKw pos (keywordEach [⟨some "key",.Lambda args body sc jY,kp⟩] X.env)).any (·.1.isNone)=false:=by rfl)
  (h5:(backToKw pos (keywordEach [⟨some "key",.Lambda args body sc jY,kp⟩] X.env)).filterMap (·.1)=[("key":Str)]:=by rfl) :
  PE X (.Call (.Name "sorted" p) [a] [⟨some "key",.Lambda args body sc jY,kp⟩] pos) (tSK X.K j ta te):=by
 exists 47;refine afv (qj I hg hm (show bootBuiltins "sorted"=some (.builtin "sorted") by decide +kernel) ?_ (by decide) (by decide));refine callWith_kw ?_ h1 h2 h3 h4;rw[h5];refine aM (cP ha eT hs pos af s σ H (λvs H1=>match vs with|[x]=>Nu X.K j te σ Q x H1|_=>False) I h) λus s1 ⟨vs,H1,I1,rv,q1⟩=>?_
 rcases vs with _|⟨x,_|⟨x2,r2⟩⟩
 .exact q1.elim
 .obtain⟨u,rfl,ru⟩:=vals1 rv;obtain⟨p,ns,pr,v1,rfl,n9,l7,nd,hv,ht,hQ⟩:=q1;cases ru;refine kws_cons (aaO I1 lk sh wK vO hq λf c' iR pm H' s' J sm hc=>kws_nil ?_);refine Vz J S hc o6 hj hv qo x8 hb (n9.elim (λz=>.inl (z.elim (λz=>.inl (sm _ _ z)) λ⟨o,z⟩=>.inr ⟨o,sm _ _ z⟩)) .inr) l7 nd (λs H3 zo=>ht f c' s H3 (sm.trans zo)) λHf D eB s1 n1=>hQ Hf D eB (sm.trans s1) ?_
  cases e:H1 D with
  |none=>rfl
  |some o=>have:=sm D o e;rw[n1] at this;cases this
 .exact q1.elim
end
end L2
namespace L2.Ev
open PySem PySem.Spec PyProof.Rows
def uL(pr:Int->Int×Int)(x:Int):List Int->List Int
 |[]=>[x]
 |y::r=>if lex (pr x) (pr y)=true then x::y::r else y::uL pr x r
def jm(pr:Int->Int×Int):List Int->List Int
 |[]=>[]
 |x::r=>uL pr x (jm pr r)
theorem JP(x:Int):∀l:List Int,(uL pr x l).Perm (x::l)
 |[]=>.refl _
 |y::r=>by
  unfold uL
  split
  .exact .refl _
  .exact((JP x r).cons y).trans (.swap x y r)
theorem w6:∀l:List Int,(jm pr l).Perm l
 |[]=>.refl _
 |x::r=>(JP x (jm pr r)).trans ((w6 r).cons x)
theorem lex_trans(h:lex a b=true)(g:lex b c=true):lex a c=true:=by
 have h:=abd h;have g:=abd g;exact aa1 (by lia)
theorem aga(h:a≠b)(g:¬lex a b=true):lex b a=true:=by
 have n2:¬(a.1=b.1/\a.2=b.2):=λz=>h (Prod.ext z.1 z.2)
 have g:¬(a.1<b.1\/a.1=b.1/\a.2<b.2):=λz=>g (aa1 z)
 exact aa1 (by omega)
theorem Sg(x:Int):∀{l},(∀y∈l,pr x≠pr y)->l.Pairwise (λa b=>lex (pr a) (pr b)=true)->(uL pr x l).Pairwise (λa b=>lex (pr a) (pr b)=true)
 |[],_,_=>List.pairwise_singleton _ _
 |y::r,n,h=>by
  obtain⟨h1,h2⟩:=adK.mp h;unfold uL
  split
  .rename_i hx;exact adK.mpr ⟨λz m=>(abb.mp m).elim (λe=>e ▸ hx) λm=>lex_trans hx (h1 z m),h⟩
  .rename_i hx;refine adK.mpr ⟨λz m=>?_,Sg x (λy m=>n y (aaa _ m)) h2⟩;rcases abb.mp ((JP x r).mem_iff.mp m) with e|m
   .rw[e];exact aga (n y aar) hx
   .exact h1 z m
theorem NC:∀{l},(l.map pr).Nodup->(jm pr l).Pairwise (λa b=>lex (pr a) (pr b)=true)
 |[],_=>.nil
 |x::r,n=>by
  rw[aas] at n;obtain⟨n1,n2⟩:=abV.mp n;exact Sg x (λy m e=>n1 (abX.mpr ⟨y,(w6 r).mem_iff.mp m,e.symm⟩)) (NC n2)
theorem abe(p:a.Perm b)(n:(b.map pr).Nodup)(s:a.Pairwise (λa b=>lex (pr a) (pr b)=true)):a=jm pr b:=by
 have q:a.Perm (jm pr b):=p.trans (w6 b).symm;refine q.eq_of_pairwise (λx y _ _ h1 h2=>?_) s (NC n);have h1:=abd h1;have h2:=abd h2
 lia
noncomputable def tS(fb:EF)(dc:D)(n:Int):Option (Int×Int):=match fb [some (.int n,.own),some (dc,.sh [])] with
 |some (.tup [.int a,.int b],_)=>some (a,b)
 |_=>none
def vv(fb:EF)(dc:D)(n:Int):Int×Int:=(tS fb dc n).getD (0,0)
def Js(j:Nat)(fa fb:EF):EF:=λρ=>match fa ρ,ρ[j]? with
 |some (.lst ds,_),some (some (dc,_))=>match d_ ds with
  |some ns=>if ns.length<64/\(ns.map (vv fb dc)).Nodup/\∀n∈ns,(tS fb dc n).isSome=true then some (.lst ((jm (vv fb dc) ns).map D.int),.own) else none
  |none=>none
 |_,_=>none
theorem UE(j:Nat)(hm:X.mg "sorted"=none)(ha:FP X a fa)(S:Bc sc args x y)(lk:X.K.lookup f0=some o0)(sh:vX o0=some (X.env.code,q,jY))(x8:X.A.in1.in1.depth<recursionLimit)
  (hb:∀f c' s H,FP (sN X X.A.in1.in1 x y q sc f (.ref c') [(y,c)] s H) body fb) (hq:X.env.qual++"<lambda>"=q:=by rfl) (vO:closureFor sc X.env=pure [(y,c)]:=by rfl)
  (o6:X.env.cells.lookup y=some c:=by rfl) (hj:X.N[j]? = some y:=by rfl) (qo:X.env.scope.names.lookup y=some .cell:=by rfl)
  (wK:defaultsOf args X.env=([],[]):=by rfl) (hg:Gl X "sorted":=by rfl) (hs:Y2 X a:=by rfl)
  (h1:backTo pos (starEach [a] X.env)=(false,eval a X.env)::backTo pos (starEach [] X.env):=by rfl) (h2:(backTo pos (starEach [a] X.env)).any (·.1)=false:=by rfl)
  (h3:(backToKw pos (keywordEach [⟨some "key",.Lambda args body sc jY,kp⟩] X.env)).all (·.1.isSome)=true:=by rfl) (h4:(backToKw pos (keywordEach [⟨some "key",.Lambda args body sc jY,kp⟩] X.env)).any (·.1.isNone)=false:=by rfl)
  (h5:(backToKw pos (keywordEach [⟨some "key",.Lambda args body sc jY,kp⟩] X.env)).filterMap (·.1)=[("key":Str)]:=by rfl) :
  FP X (.Call (.Name "sorted" p) [a] [⟨some "key",.Lambda args body sc jY,kp⟩] pos) (Js j fa fb):=by
 obtain⟨ta,pa,sa⟩:=ha;refine⟨_,WU hm pa S lk sh hq vO o6 hj qo x8 (λf c' s H=>(hb f c' s H).choose_spec.1) wK hg hs h1 h2 h3 h4 h5,@λH0 S' z aq ρ σ H Q d tg ok e k=>?_⟩;unfold Js at e
 split at e
 .rename_i ds t1 dc t2 e1 e2
  split at e
  .rename_i ns uf
   split at e
   .rename_i hc;cases e;obtain⟨l7,nd,hk⟩:=hc;refine sa ok e1 λH1 v fp s1 r1 g1=>?_
    obtain⟨l,xs,f',rfl,n9,rs,_⟩:=r1.dY;have ex:=rq rs uf;subst ex;obtain⟨vc,fc,hvc,rc,_⟩:=ok.sl j dc t2 e2;refine⟨l,ns,vv fb dc,vc,rfl,n9,l7,nd,hvc,λf c' s H3 s3 n mn=>?_,λHf D eB sf nD hD pm st=>?_⟩
    .obtain⟨kk,ek⟩:=agt.mp (hk n mn);have BC:=ek;unfold tS at BC
     split at BC
     .rename_i a b tb eb;cases BC;have iV:Ok X.K H3 [] (λ_=>none) [] [some (.int n,.own),some (dc,.sh [])] [some (.int n),some vc] H3:=by
       refine⟨λi d t e=>?_,(λp m=>nomatch m),(λa j e=>nomatch e),λa o e _=>e,rfl⟩
       match i,e with
       |0,e=>cases e;exact⟨_,[],rfl,.int n,acj,λa m=>nomatch m⟩
       |1,e=>cases e;exact⟨vc,fc,rfl,(rc.same s1).same s3,λa m j e=>nomatch e⟩
       |i+2,e=>exact absurd e (by simp)
      refine(hb f c' s H3).choose_spec.2 iV eb λH4 v fp s4 r4 _=>?_
      obtain⟨w,xs,rfl,hw,eW⟩:=r4.i8;refine⟨w,rfl,?_,s4⟩;have e1:(vv fb dc n)=(a,b):=by unfold vv;rw[ek];rfl
      rw[e1];cases eW with
      |cons h1 r=>cases r with
       |cons h2 r=>cases r;cases h1;cases h2;exact hw
     .cases BC
    .have eq:=abe pm nd st;subst eq;refine k Hf _ [D] (s1.trans sf) (.lst hD (wN _)) ⟨abV.mpr ⟨(λm=>nomatch m),acj⟩,λa m=>?_⟩;cases aa3.mp m;exact s1.free nD
   .cases e
  .cases e
 .cases e
def FY(X:Cx)(e:Expr)(f:XF):Prop:=∃t,PE X e t/\∀{H0} {S} {z} {aq} {ρ} {σ} {H} {Q} {d} {ρ'},
 Ok X.K H0 S z aq ρ σ H->f ρ=some (d,ρ')->(∀z' H' v,Ok X.K H0 S z' aq ρ' σ H'->a_ H H'->Rep X.K H' d v []->Q v H')->t σ H Q
theorem FY.fz(h:FY X e f):FZ X e f:=let⟨t,p,q⟩:=h;⟨t,p,@λH0 S z aq ρ σ H Q d ρ' ok e k=>q ok e λz' H' v o _ r=>k z' H' v o r⟩
theorem Bg(i:Nat)(hC:ClsAt X.K cn C)(hm:kG X.K C m fa)(GG:bX X.prog X.w X.K X.mg X.base c9 k fa fd ps (dJ X.K G))(hr:bu k X.A)(hb:Binds X.K fd ps [])(ha:FA X (e::es) g)(va:VA X i x:=by walk_at "va")
  (cX:SE X e es pos:=by exact⟨rfl,rfl⟩)
  (ht:uv X (.Name x p1) m apos (e::es) pos pl:=by exact rfl):FY X (.Call (.Attribute (.Name x p1) m apos) (e::es) [] pos) (xO i cn m G g):=by
 obtain⟨ta,pa,_,qa⟩:=ha;refine⟨_,BE va.pe hC.cl hm GG hr hb .nil nq pa cX.1 cX.2 ht,@λH0 S z aq ρ σ H Q d ρ' ok e0 kk=>?_⟩;obtain⟨sG,qs,d1,h1,h2,hm,oj,hG,rfl⟩:=QC e0;obtain⟨v,bH,hs,r0,zz⟩:=ok.sl i _ _ h1;refine⟨v,hs,?_⟩;obtain⟨b,dx,fs,gf,rfl,GA,h4,h5,h6,h7⟩:=r0.lM hC.ns;refine⟨b,dx,fs,rfl,h4,rP h6 hm,?_⟩;refine qa ok h2 λH2 vs l9 s2 r2 g2=>?_
 rw[acE];refine⟨b,vs,_,bH,_,l9,d,d1,rfl,r0.same s2,zz.1,r2,F2 ok oj g2 zz,hG,λH3 u bR im kp r1 nd fr rr=>?_⟩;obtain⟨z',iV⟩:=(ok.same s2).put h1 hs zz im kp r1 nd fr;exact kk z' H3 u iV ((a_.of s2).trans im) rr
def Bt(i:Nat)(cn fl ic m:Str)(G:MF)(g:AF):XF:=λρ=>match ρ[i]?,g ρ with
 |some (some (.ins c es,.own)),some ps=>match es.lookup fl with
  |some (.ins c2 ia)=>if c=cn/\c2=ic/\ia.lookup m=none/\apart i ps=true then(G (.ins c2 ia) (ps.map (·.1))).map λw=>(w.1,bT ρ i (.ins c (dR fl w.2 es))) else none
  |_=>none
 |_,_=>none
theorem Wl(i:Nat)(hC:ClsAt X.K cn C)(na:jr X.K C fl)(xN:ClsAt X.K ic C2)(hm:kG X.K C2 m fa)(GG:bX X.prog X.w X.K X.mg X.base c9 k fa fd ps (dJ X.K G))(hr:bu k X.A)(hb:Binds X.K fd ps [])(ha:FA X (e::es) g)(va:VA X i x:=by walk_at "va")
  (A_:attributeBase (.Name x p1) fl X.env (eval (.Name x p1) X.env)=eval (.Name x p1) X.env:=by rfl)
  (cX:SE X e es pos:=by exact⟨rfl,rfl⟩)
  (ht:uv X (.Attribute (.Name x p1) fl p2) m apos (e::es) pos pl:=by exact rfl):FY X (.Call (.Attribute (.Attribute (.Name x p1) fl p2) m apos) (e::es) [] pos) (Bt i cn fl ic m G g):=by
 obtain⟨ta,pa,_,qa⟩:=ha;refine⟨_,BE (vV va.pe A_) xN.cl hm GG hr hb .nil nq pa cX.1 cX.2 ht,@λH0 S z aq ρ σ H Q d ρ' ok e0 kk=>?_⟩;unfold Bt at e0
 split at e0
 .rename_i c es1 qs h1 h2
  split at e0
  .rename_i c2 ia hl
   by_cases hc:c=cn/\c2=ic/\ia.lookup m=none/\apart i qs=true
   .rw[if_pos hc] at e0;obtain⟨rfl,rfl,Uz,oj⟩:=hc;obtain⟨w,hG,ew⟩:=acq.mp e0;cases ew;obtain⟨v,bH,hs,r0,zz⟩:=ok.sl i _ _ h1;refine⟨v,hs,?_⟩;obtain⟨b0,dx,fs,u,gf,rfl,a1,a2,a3,a4,a5,a6⟩:=r0.place hC.ns zz.1 hl;refine⟨b0,C,dx,fs,u,rfl,a1,hC.cl,na,a2,?_⟩;obtain⟨b,dx2,fs2,g2,rfl,GA,c4,c5,c6,c7⟩:=a3.lM xN.ns;refine⟨b,dx2,fs2,rfl,c4,rP c6 Uz,?_⟩;refine qa ok h2 λH2 vs l9 s2 r2 gg=>?_
    rw[acE];refine⟨b,vs,_,gf,_,l9,w.1,w.2,rfl,a3.same s2,a4,r2,λx m n=>F2 ok oj gg zz x m (a5 x n),hG,λH3 u' bR im kp r1 nd fr rr=>?_⟩;have i3:=(a_.of s2).trans im;have k3:∀b o,b∉gf->H b=some o->H3 b=some o:=λb o n e=>kp b o n (s2 b o e)
    obtain⟨IX,k1,k2,k4⟩:=a6 H3 w.2 bR i3 k3 r1 nd λb m=>(fr b m).imp id s2.free
    obtain⟨z',iV⟩:=ok.put h1 hs zz i3 (λb o n e=>k3 b o (λm=>n (a5 b m)) e) k1 k2 k4;exact kk z' H3 u' iV i3 rr
   .rw[if_neg hc] at e0;cases e0
  .cases e0
 .cases e0
noncomputable def tZ(f:XF):aO->Option (Bool×aO):=λρ=>match f ρ with
 |some (.bl b,ρ')=>some (b,ρ')
 |_=>none
theorem abt(h:FZ X a f)(he:∀whole,isTrue a X.env whole=(do let v <- whole;standAt a.pos;holding [v] (truthy v)):=by intro _;rfl):qt X a (tZ f):=by
 obtain⟨t,p,q⟩:=h;exists 26,J9 p he;unfold tZ at e
 split at e
 .rename_i c' aS h1;cases e;refine q ok h1 λz' H' v aT r=>?_
  cases r;exact⟨_,rfl,k z' H' aT⟩
 .cases e
noncomputable def lu(c:aO->Option (Bool×aO))(f:SF):Nat->SF
 |0,_=>none
 |n+1,ρ=>match c ρ with
  |some (false,aS)=>some (.nx aS)
  |some (true,aS)=>match f aS with
   |some (.nx ρ')=>lu c f n ρ'
   |_=>none
  |none=>none
theorem Vo(n:Nat)(hc:qt X c tc)(hb:FS X body fb)(hp:PassesOwn (model X.prog X.w) X.A X.env X.xe:=by exact PassesOwn.never):eV X (.While c body [] pos) (lu tc fb n):=by
 obtain⟨t,p,q⟩:=hc;obtain⟨tb,pb,qb⟩:=hb;exists 23,Ow hp p pb;refine⟨λm az H'=>∃z' ρ',Ok X.K H0 S z' aq ρ' az H'/\lu tc fb m ρ'=some o/\Kp X σ az,⟨n,z,ρ,ok,e,.refl _ _⟩,?_⟩
 rintro m az H' ⟨z',ρ',aT,e',kp⟩
 cases m with
 |zero=>cases e'
 |succ m=>
  unfold lu at e'
  split at e'
  .rename_i aS hc;cases e';refine q aT hc λz1 H1 bG=>?_
   rw[if_neg abz];exact k z1 az H1 bG kp
  .rename_i aS hc;refine q aT hc λz1 H1 bG=>?_
   rw[if_pos rfl]
   split at e'
   .rename_i bh hf;refine⟨λiN H2=>∃z2 bh,Ok X.K H0 S z2 aq bh iN H2/\lu tc fb m bh=some o/\Kp X σ iN,λiN H2 hn=>⟨m,agP m,hn⟩,?_⟩;exact qb bG hf λz3 cT H3 iU b=>⟨z3,bh,iU,e',kp.trans b⟩
   .cases e'
  .cases e'
noncomputable def vL(f g:XF):XF:=λρ=>match f ρ with
 |some (.bl true,ρ')=>some (.bl true,ρ')
 |some (.bl false,ρ')=>match g ρ' with
  |some (.bl b,bh)=>some (.bl b,bh)
  |_=>none
 |_=>none
theorem TM(ha:FZ X a f)(hb:FZ X b g):FZ X (.BoolOp .Or [a,b] pos) (vL f g):=by
 exists 69;obtain⟨t',p',q'⟩:=hb;exists 27,RL p (RK p');unfold vL at e
 split at e
 .rename_i aS h;cases e;refine q ok h λz1 H1 v bG r1=>?_
  cases r1;refine⟨true,rfl,?_⟩;rw[if_pos rfl];exact k z1 H1 _ bG (.bl _)
 .rename_i aS h
  split at e
  .rename_i c bh h2;cases e;refine q ok h λz1 H1 v bG r1=>?_
   cases r1;refine⟨false,rfl,?_⟩;rw[if_neg abz];exact q' bG h2 k
  .cases e
 .cases e
section
variable{K:PySem.W.Frag}
theorem PR(h:ck K H a (ks.map L2.kV))(ni:qw K=true)(hi:ks.all (λk=>k.isLeft)=true)(hn:ks≠[]):Tk H a (ks.map L2.kV):=by
 rcases h with(h|⟨o,h⟩)|⟨o,au,n,hk,_,_,hd,_,rv⟩
 .exact⟨.tup _,rfl,h⟩
 .exact⟨.vQ o _,rfl,h⟩
 .exfalso
  have q:=ada.mp ni (a,o) (BO hk);dsimp only at q;rw[hd] at q;have len:=rv.length;have go:∀{ks:List Key} {vs},ks.all (λk=>k.isLeft)=true->aU (ks.map L2.kV) vs->∀v∈vs,∃i t,v=Value.int i t:=by
   intro ks
   induction ks with
   |nil=>intro vs _ r v m;cases r;cases m
   |cons k ks ih=>
    intro vs h r v m;obtain⟨h1,h2⟩:=(abn _ _).mp (by simpa only[ahd] using h);cases r with
    |cons r1 r2=>
     rcases abb.mp m with e|m
     .subst e;cases k with
      |inr _=>cases h1
      |inl i=>obtain⟨t,e⟩:=(show RelV (.int i) _ from r1);exact⟨i,t,e⟩
     .exact ih h2 r2 v m
  rcases(ahf _ _).mp (show(au.size==0||au.toList.any _)=true from q) with z|z
  .have z:au.size=0:=by simpa using z
   simp only[List.length_map,aeO] at len;exact hn (agS (len.trans z))
  .obtain⟨v,mv,e⟩:=ad6.mp z;obtain⟨i,t,rfl⟩:=go hi rv v mv;cases e
theorem Tk.aC(h:Tk H a xs)(i:a_ H H'):Tk H' a xs:=by
 obtain⟨t,e1,e2⟩:=h;cases t with
 |tup ys=>exact⟨.tup ys,e1,i.1 _ _ e2⟩
 |vQ o ys=>exact⟨.vQ o ys,e1,i.2.1 _ _ _ e2⟩
 |iw _ _=>cases e1
 |jb _=>cases e1
variable[DecidableEq κ]
theorem yb:∀{es:List (κ×α)},k∉es.map (·.1)->(es.map λkv=>if kv.1=k then(kv.1,d) else kv)=es
 |[],_=>rfl
 |(q,x)::es,n=>by
  rw[aas] at n ⊢;rw[if_neg (λe=>n (by rw[e];exact aar)),yb λm=>n (aaa _ m)]
theorem aB.Pq:∀{es}{ak:List (κ×V)} {g},es.map (·.1)=ak.map (·.1)->aB K H (es.map (·.2)) (ak.map (·.2)) g->g.Nodup->(es.map (·.1)).Nodup->bB es k=some d0->
  ∃v gf,eF ak k=some v/\Rep K H d0 v gf/\gf.Nodup/\(∀a∈gf,a∈g)/\∀(H') (d1) (g1),a_ H H'->(∀b o,b∉gf->b∈g->H b=some o->H' b=some o)->Rep K H' d1 v g1->g1.Nodup->(∀b∈g1,b∈gf\/H b=none)->
   ∃g',aB K H' ((putD es k d1).map (·.2)) ((putK ak k v).map (·.2)) g'/\g'.Nodup/\∀b∈g',b∈g\/H b=none
 |[],_,_,_,_,_,_,e=>by cases e
 |_::_,[],_,k,_,_,_,_=>by simp at k
 |(x,d)::es,(y,v0)::ak,_,hk,r,nd,kd,e=>by
  simp only[aas,afB] at hk;obtain⟨rfl,hk⟩:=hk;rw[aas] at kd;obtain⟨La,YG⟩:=abV.mp kd;have any:∀{α}{l:List (κ×α)}{d:α},k∈l.map (·.1)->(l.any λkv=>decide (kv.1=k))=true:=λ{α l d} m=>by
   obtain⟨p,m1,m2⟩:=abX.mp m;exact ad6.mpr ⟨p,m1,aa1 m2⟩
  cases r with
  | @cons _ _ _ _ f1 f2 r1 r2=>
   obtain⟨a1,a2,a3⟩:=acP.mp nd
   by_cases hx:x=k
   .subst hx;have e1:bB ((x,d)::es) x=some d:=by simp[bB,adz]
    rw[e1] at e;obtain rfl:d=d0:=ab1 e;refine⟨v0,f1,za rfl,r1,a1,λa m=>abq _ m,λH' d1 g1 im kp rr n1 fr=>?_⟩;refine⟨g1++f2,?_,acP.mpr ⟨n1,a2,λa ma b mb e=>?_⟩,λb m=>?_⟩
    .have er:putD ((x,d)::es) x d1=(x,d1)::es:=by
      unfold putD;rw[any (d:=d1) (by simp),if_pos rfl,aas,yb La,if_pos rfl]
     have ev:putK ((x,v0)::ak) x v0=(x,v0)::ak:=by
      unfold putK;rw[any (d:=v0) (by simp),if_pos rfl,aas,yb (show x∉ak.map (·.1) by rw[<- hk];exact La),if_pos rfl]
     rw[er,ev,aas,aas];refine .cons rr (r2.frame (λa m=>?_) im);obtain⟨o,w,_⟩:=r2.cC a m;rw[kp a o (λq=>a3 a q a m rfl) (aaV _ m) w,w]
    .subst e;obtain⟨o,w,_⟩:=r2.cC a mb;rcases fr a ma with q|q
     .exact a3 a q a mb rfl
     .rw[q] at w;cases w
    .rcases abE.mp m with m|m
     .exact(fr b m).imp (abq _) id
     .exact .inl (aaV _ m)
   .have e1:bB ((x,d)::es) k=bB es k:=by simp[bB,adz,hx]
    rw[e1] at e;obtain⟨v,gf,h1,h2,h3,h4,h5⟩:=aB.Pq hk r2 a2 YG e;have mk:k∈es.map (·.1):=by
     unfold bB at e;obtain⟨p,e2,e3⟩:=acq.mp e;exact abX.mpr ⟨p,agH e2,abd (show decide (p.1=k)=true from ahg (p:=λkv:κ×D=>decide (kv.1=k)) e2)⟩
    refine⟨v,gf,by rw[yW hx];exact h1,h2,h3,λa m=>aaV _ (h4 a m),λH' d1 g1 im kp rr n1 fr=>?_⟩;obtain⟨g',c1,c2,c3⟩:=h5 H' d1 g1 im (λb o n m e=>kp b o n (aaV _ m) e) rr n1 fr;refine⟨f1++g',?_,acP.mpr ⟨a1,c2,λa ma b mb e=>?_⟩,λb m=>?_⟩
    .have er:(putD ((x,d)::es) k d1)=(x,d)::putD es k d1:=by
      unfold putD;rw[any (d:=d1) (l:=(x,d)::es) (aaa _ mk),any (d:=d1) mk,if_pos rfl,if_pos rfl,aas,if_neg hx]
     have ev:(putK ((x,v0)::ak) k v)=(x,v0)::putK ak k v:=by
      unfold putK;rw[any (d:=v) (by rw[aas,<- hk];exact aaa _ mk),any (d:=v) (by rw[<- hk];exact mk),if_pos rfl,if_pos rfl,aas,if_neg hx]
     rw[er,ev,aas,aas];refine .cons (r1.frame (λa m=>?_) im) c1;obtain⟨o,w,_⟩:=r1.cC a m;rw[kp a o (λq=>a3 a m a (h4 a q) rfl) (abq _ m) w,w]
    .subst e;obtain⟨o,w,_⟩:=r1.cC a ma;rcases c3 a mb with q|q
     .exact a3 a ma a q rfl
     .rw[q] at w;cases w
    .rcases abE.mp m with m|m
     .exact .inl (abq _ m)
     .exact(c3 b m).imp (aaV _) id
theorem Ok.blank(ok:Ok K H0 S z aq ρ σ H)(h:ρ[i]? = some none):Ok K H0 S z aq ρ (σ.set i x) H:=
 ⟨λj d t e=>by
  have ne:i≠j:=λz=>by rw[<- z,h] at e;cases e
  obtain⟨v,fp,a,b,c⟩:=ok.sl j d t e;exact⟨v,fp,by rw[acO ne];exact a,b,c⟩,ok.hl,ok.zd,ok.en,by rw[agq];exact ok.ln⟩
end
noncomputable def B6(cn:Str):Option Slot->Option (List (Str×D))
 |some (some (.ins c es,.own))=>if c=cn then some es else none
 |_=>none
noncomputable def CS:Option Slot->Option (List D)
 |some (some (.tup ls,_))=>some ls
 |_=>none
noncomputable def IY:Option Slot->Option Str
 |some (some (.str w,_))=>some w
 |_=>none
noncomputable def F5:Option D->Option (List (List Key×D))
 |some (.cZ l)=>some l
 |_=>none
theorem Ou:∀{x} {es},B6 cn x=some es->x=some (some (.ins cn es,.own)):=by
 rintro(_|_|⟨d,t⟩) es e
 any_goals cases e
 cases d
 any_goals cases e
 cases t
 any_goals cases e
 exact(Option.ite_none_right_eq_some.mp e).elim λa b=>by cases a;cases b;rfl
theorem ab5:∀{x} {ls},CS x=some ls->∃t,x=some (some (.tup ls,t)):=by
 rintro(_|_|⟨d,t⟩) es e
 any_goals cases e
 cases d
 all_goals cases e
 exact⟨_,rfl⟩
theorem Wo:∀{x} {w},IY x=some w->∃t,x=some (some (.str w,t)):=by
 rintro(_|_|⟨d,t⟩) es e
 any_goals cases e
 cases d
 all_goals cases e
 exact⟨_,rfl⟩
theorem YV:∀{x} {l},F5 x=some l->x=some (.cZ l):=by
 rintro(_|d) es e
 any_goals cases e
 cases d
 all_goals cases e
 rfl
def vB(cn fl ic m:Str)(ft:EF)(G:MF):SF:=λρ=>
 (B6 cn ρ[0]?).bind λes=>(CS ρ[1]?).bind λls=>(IY ρ[2]?).bind λwd=>(F5 (es.lookup fl)).bind λak=>(iI ls).bind λks=>(ft ρ).bind λdn=>
  (B6 ic (some (some ((bB ak ks).getD dn.1,dn.2)))).bind λia=>(G (.ins ic ia) [.str wd]).bind λr=>
   if ρ[3]?.any Option.isNone=true/\ia.lookup m=none/\ks.all (λk=>k.isLeft)=true/\ks≠[]/\(ak.map (·.1)).Nodup/\ak.length<sizeLine/\aC r.1=true then some (.nx (iB (bT ρ 0 (.ins cn (dR fl (.cZ (putD ak ks r.2)) es))) 4 r.1 .own)) else none
theorem afw(e:vB cn fl ic m ft G ρ=some w):∃es ls lt wd wt ak ks dn ia r d1,ρ[0]? = some (some (.ins cn es,.own))/\ρ[1]? = some (some (.tup ls,lt))/\ρ[2]? = some (some (.str wd,wt))/\ρ[3]? = some none/\es.lookup fl=some (.cZ ak)/\iI ls=some ks/\ft ρ=some (dn,.own)/\
  (bB ak ks).getD dn=.ins ic ia/\ia.lookup m=none/\ks.all (λk=>k.isLeft)=true/\ks≠[]/\(ak.map (·.1)).Nodup/\ak.length<sizeLine/\G (.ins ic ia) [.str wd]=some (r,d1)/\aC r=true/\w=.nx (iB (bT ρ 0 (.ins cn (dR fl (.cZ (putD ak ks d1)) es))) 4 r .own):=by
 obtain⟨es,h1,e⟩:=aeD.mp e;obtain⟨ls,h2,e⟩:=aeD.mp e;obtain⟨wd,h3,e⟩:=aeD.mp e;obtain⟨ak,h4,e⟩:=aeD.mp e;obtain⟨ks,h5,e⟩:=aeD.mp e;obtain⟨dn,h6,e⟩:=aeD.mp e;obtain⟨ia,h7,e⟩:=aeD.mp e;obtain⟨⟨r,d1⟩,h8,e⟩:=aeD.mp e;obtain⟨⟨a0,a1,a2,a3,a4,a5,a6⟩,e⟩:=Option.ite_none_right_eq_some.mp e;obtain⟨t2,h2⟩:=ab5 h2;obtain⟨t3,h3⟩:=Wo h3;have h7:=Ou h7;have a0:ρ[3]? = some none:=by
  rcases h:ρ[3]? with _|_|_<;>rw[h] at a0<;>first|rfl|cases a0
 cases e;injection h7 with h7;injection h7 with h7;injection h7 with h7 h9;exact⟨es,ls,t2,wd,t3,ak,ks,dn.1,ia,r,d1,Ou h1,h2,h3,a0,YV h4,h5,by rw[h6,<- h9],h7,a1,a2,a3,a4,a5,h8,a6,rfl⟩
theorem U0(h0:ρ[0]? = some (some (.ins cn es,.own)))(h1:ρ[1]? = some (some (.tup ls,lt)))(h2:ρ[2]? = some (some (.str wd,wt)))(h3:ρ[3]? = some none)(h4:es.lookup fl=some (.cZ ak))(h5:iI ls=some ks)(h6:ft ρ=some (dn,.own))(h7:(bB ak ks).getD dn=.ins ic ia)(h8:G (.ins ic ia) [.str wd]=some (r,d1))
  (hc:ia.lookup m=none/\ks.all (λk=>k.isLeft)=true/\ks≠[]/\(ak.map (·.1)).Nodup/\ak.length<sizeLine/\aC r=true):vB cn fl ic m ft G ρ=some (.nx (iB (bT ρ 0 (.ins cn (dR fl (.cZ (putD ak ks d1)) es))) 4 r .own)):=by
 unfold vB B6 CS IY F5;simp only[h0,h1,h2,h3,h4,h5,h6,h7,h8,acV,if_pos];exact if_pos ⟨rfl,hc⟩
section
variable{cn fl ic m x0 x1 x2 x3 x4:Str}{rest:List Stmt}
set_option maxHeartbeats 1000000 in
theorem abj(hu:X.A.units+1<cLine)(ni:qw X.K=true)(hC:ClsAt X.K cn C)(na:jr X.K C fl)(xN:ClsAt X.K ic C2)(hm:kG X.K C2 m fa)(GG:bX X.prog X.w X.K X.mg X.base c9 k fa fd ps (dJ X.K G))(hr:bu k X.A)(hb:Binds X.K fd ps [])
  (hT:FP X tc ft) (yK:FM X rest g) (hN:X.N.Nodup) (a0:VA X 0 x0:=by walk_at "va") (a1:VA X 1 x1:=by walk_at "va") (a2:VA X 2 x2:=by walk_at "va") (a3:VA X 3 x3:=by walk_at "va") (h4:X.N[4]? = some x4:=by rfl)
  (v3:Loc X.env.scope x3:=by first|exact Or.inl rfl|exact Or.inr rfl) (v4:Loc X.env.scope x4:=by first|exact Or.inl rfl|exact Or.inr rfl)
  (A_:attributeBase (.Name x0 p1) fl X.env (eval (.Name x0 p1) X.env)=eval (.Name x0 p1) X.env:=by rfl) (aaU:attributeBase (.Name x0 q1) fl X.env (eval (.Name x0 q1) X.env)=eval (.Name x0 q1) X.env:=by rfl)
  (mm:M2 X (.Attribute (.Name x0 p1) fl p2) "get" p3 (.Name x1 p4) tc p5:=by exact⟨rfl,rfl,rfl,rfl⟩)
  (s1:swapsWith (.Call (.Attribute (.Attribute (.Name x0 p1) fl p2) "get" p3) [.Name x1 p4,tc] [] p5) (some (.Name x3 p6)) p7.line X.env=pure false:=by rfl)
  (s2:swapsWith (.Call (.Attribute (.Name x3 q2) m q3) [.Name x2 q4] [] q5) (some (.Name x4 p8)) p9.line X.env=pure false:=by rfl)
  (s3:swapsWith (.Name x3 q6) (some (.Subscript (.Attribute (.Name x0 q1) fl q7) (.Name x1 q8) q9)) r1.line X.env=pure false:=by rfl)
  (f3:v6 X x3:=by first|exact .inl rfl|exact .inr rfl) (f4:v6 X x4:=by first|exact .inl rfl|exact .inr rfl) (k3:kK X x3=false:=by rfl) (k4:kK X x4=false:=by rfl)
  (cX:starEach [.Name x2 q4] X.env=[(false,eval (.Name x2 q4) X.env)]:=by rfl)
  (ht:eval (.Call (.Attribute (.Name x3 q2) m q3) [.Name x2 q4] [] q5) X.env=(do
   let ov <- eval (.Name x3 q2) X.env
   standAt q3.atName
   let(f,first) <- holding [ov] (getMethod ov m pl)
   callWith q5 f first (backTo q5 (starEach [.Name x2 q4] X.env)) (backToKw q5 (keywordEach [] X.env))):=by rfl) :
  FM X (.Assign [.Name x3 p6] (.Call (.Attribute (.Attribute (.Name x0 p1) fl p2) "get" p3) [.Name x1 p4,tc] [] p5) p7::.Assign [.Name x4 p8] (.Call (.Attribute (.Name x3 q2) m q3) [.Name x2 q4] [] q5) p9::.Assign [.Subscript (.Attribute (.Name x0 q1) fl q7) (.Name x1 q8) q9] (.Name x3 q6) r1::rest) (b7 (vB cn fl ic m ft G) g):=by
 obtain⟨tT,pT,sT⟩:=hT;obtain⟨tr,pr,sr⟩:=yK;refine⟨_,zh (AL hN a3.N v3 (DW hu (vV a0.pe A_) a1.pe pT mm) s1 f3)
  (zh (AL hN h4 v4 (BE a3.pe xN.cl hm GG hr hb .nil nq (cP a2.pe eT cX) cX rfl ht) s2 f4)
  (zh (Bu hu (vV a0.pe aaU) a1.pe a3.pe s3) pr)),@λH0 S z aq ρ σ H E o ok e kE=>?_⟩
 cases hw:vB cn fl ic m ft G ρ with
 |none=>unfold b7 at e;rw[hw] at e;cases e
 |some w=>
  obtain⟨es,ls,lt,wd,wt,ak,ks,dn,ia,r,d1,e0,e1,e2,e3,Uq,V5,eft,vt,Zd,F_,r_,knd,hlen,eG,hir,rfl⟩:=afw hw;have e:g (iB (bT ρ 0 (.ins cn (dR fl (.cZ (putD ak ks d1)) es))) 4 r .own)=some o:=by unfold b7 at e;rw[hw] at e;exact e
  obtain⟨v,bH,hs,r0,zz⟩:=ok.sl 0 _ _ e0;obtain⟨vl,Iw,BD,rl,_⟩:=ok.sl 1 _ _ e1;obtain⟨bL,xs,rfl,SY,SH⟩:=rl.i8;obtain rfl:=aB.keys SH V5;have u0:=PR SY ni F_ r_;obtain⟨vw,fw,j7,eW,_⟩:=ok.sl 2 _ _ e2;obtain⟨rfl,rfl⟩:=eW.yE;have l3:3<σ.length:=by rw[<- ok.ln];exact(abL.mp e3).1
  obtain⟨b0,dx,fs,u,gf,⟨nb,nx⟩,rfl,a1,a2,a3,a4,a5,a6⟩:=r0.Q9 hC.ns zz.1 Uq;cases a3 with
  | @cZ l ig _ g0 hl gU rs=>
   obtain⟨lg,n0⟩:=abV.mp a4;refine⟨.ref b0,hs,b0,C,dx,fs,.ref l,rfl,a1,hC.cl,na,a2,l,rfl,.inr ⟨ig,.inl hl⟩,.ref bL,BD,?_⟩;refine sT ok eft λH3 zv IX s3 rn gn=>?_
   refine⟨eF ig ks,.inr ⟨ig,ks,bL,.inl (s3 _ _ hl),rfl,(Tk.aC u0 (.of s3)),rfl⟩,?_⟩;have hv:∃jx,Rep X.K H3 (.ins ic ia) ((eF ig ks).getD zv) jx/\jx.Nodup/\(∀b∈jx,b∈g0\/H b=none)/\∀H5 bR,a_ H3 H5->(∀b o,b∉jx->H3 b=some o->H5 b=some o)->Rep X.K H5 d1 ((eF ig ks).getD zv) bR->bR.Nodup->(∀b∈bR,b∈jx\/H3 b=none)->
     ∃g',aB X.K (upd H5 l (.dT (putK ig ks ((eF ig ks).getD zv)))) ((putD ak ks d1).map (·.2)) ((putK ig ks ((eF ig ks).getD zv)).map (·.2)) g'/\g'.Nodup/\l∉g'/\∀b∈g',b∈g0\/H b=none:=by
    cases sY:bB ak ks with
    |some dv=>
     rw[sY,ag7] at vt;subst vt;obtain⟨v,gv,b1,b2,b3,b4,b5⟩:=aB.Pq gU rs n0 knd sY;rw[b1,ag7];refine⟨gv,b2.same s3,b3,λb m=>.inl (b4 b m),λH5 bR im kp r5 yw lK=>?_⟩;have nl:l∉gv:=λm=>lg (b4 l m)
     have o9:=kp l _ nl (s3 _ _ hl);have B4:l∉bR:=λm=>(lK l m).elim nl λq=>by rw[s3 _ _ hl] at q;cases q
     obtain⟨g',c1,c2,c3⟩:=b5 (upd H5 l (.dT (putK ig ks v))) d1 bR (((a_.of s3).trans im).trans (a_.upd o9 rfl)) (λb o n mb e=>by rw[aP (λq:b=l=>lg (q ▸ mb))];exact kp b o n (s3 b o e))
      (r5.frame (λb m=>aP (λq:b=l=>B4 (q ▸ m))) (a_.upd o9 rfl)) yw (λb m=>(lK b m).imp id s3.free)
     exact⟨g',c1,c2,(λm=>(c3 l m).elim lg λq=>by rw[hl] at q;cases q),c3⟩
    |none=>
     rw[sY] at vt;have vt:=vt;subst vt;have hn:=(qC gU rs).2 sY;rw[hn];show ∃jx,Rep X.K H3 (.ins ic ia) zv jx/\jx.Nodup/\(∀b∈jx,b∈g0\/H b=none)/\∀H5 bR,a_ H3 H5->(∀b o,b∉jx->H3 b=some o->H5 b=some o)->Rep X.K H5 d1 zv bR->bR.Nodup->(∀b∈bR,b∈jx\/H3 b=none)->
      ∃g',aB X.K (upd H5 l (.dT (putK ig ks zv))) ((putD ak ks d1).map (·.2)) ((putK ig ks zv).map (·.2)) g'/\g'.Nodup/\l∉g'/\∀b∈g',b∈g0\/H b=none
     refine⟨IX,rn,gn.1,λb m=>.inr (gn.2 b m),λH5 bR im kp r5 yw lK=>?_⟩;have nl:l∉IX:=λm=>by rw[gn.2 l m] at hl;cases hl
     have o9:=kp l _ nl (s3 _ _ hl);have v9:∀b∈bR,H b=none:=λb m=>(lK b m).elim (gn.2 b) s3.free
     have B4:l∉bR:=λm=>by rw[v9 l m] at hl;cases hl
     have i6:a_ H (upd H5 l (.dT (putK ig ks zv))):=((a_.of s3).trans im).trans (a_.upd o9 rfl);have n1:(ak.any λkv=>decide (kv.1=ks))=false:=by
      unfold bB at sY;rw[Option.map_eq_none_iff,afE] at sY;exact List.any_eq_false.mpr sY
     have n2:(ig.any λkv=>decide (kv.1=ks))=false:=by
      rw[Gz,hn];rfl
     refine⟨g0++(bR++[]),?_,?_,λm=>?_,λb m=>?_⟩
     .unfold putD putK;rw[n1,n2,if_neg abz,if_neg abz,ade,ade];unfold putK at i6;rw[n2,if_neg abz] at i6;refine aB.append (rs.frame (λb m=>?_) i6) (.cons (r5.frame (λb m=>aP (λq:b=l=>B4 (q ▸ m))) (a_.upd o9 rfl)) .nil);obtain⟨o,w,_⟩:=rs.cC b m;rw[aP (λq:b=l=>lg (q ▸ m)),kp b o (λq=>by rw[gn.2 b q] at w;cases w) (s3 b o w),w]
     .rw[acE];refine acP.mpr ⟨n0,yw,λa ma b mb e=>?_⟩;obtain⟨o,w,_⟩:=rs.cC a ma;rw[e,v9 b mb] at w;cases w
     .rw[acE] at m;exact(abE.mp m).elim lg B4
     .rw[acE] at m;exact(abE.mp m).imp id (v9 b)
   generalize(eF ig ks).getD zv=v at hv ⊢;obtain⟨jx,rv,ndv,JH,fin⟩:=hv;obtain⟨a,dxT,U6,gT,rfl,GA,t1,t2,t3,t4⟩:=rv.lM xN.ns;refine⟨.ref a,aer l3,a,dxT,U6,rfl,t1,rP t3 Zd,.str wd,(by rw[acO (by decide)];exact j7),?_⟩;refine⟨a,[.str wd],_,jx,[.str wd],[],r,d1,rfl,rv,ndv,.cons (.str wd) .nil,(λb m=>nomatch m),eG,λH5 ut bR im kp r5 yw lK rr=>?_⟩;have nl:l∉jx:=λm=>(JH l m).elim lg λq=>by rw[hl] at q;cases q
   have o9:=kp l _ nl (s3 _ _ hl);have nb0:b0∉jx:=λm=>(JH b0 m).elim (λq=>nb (aaa _ q)) λq=>by rw[a1] at q;cases q
   have Zh:=kp b0 _ nb0 (s3 _ _ a1);have hlv:ig.length=ak.length:=by have:=congrArg List.length gU;simpa using this.symm
   refine⟨.ref a,(by rw[acO (by decide)];exact aer l3),.ref b0,(by rw[acO (by decide),acO (by decide)];exact hs),b0,C,dx,fs,.ref l,rfl,Zh,hC.cl,na,a2,.ref bL,(by rw[acO (by decide),acO (by decide)];exact BD),l,_,rfl,
    .inr ⟨ig,ks,bL,o9,rfl,(Tk.aC u0 ((a_.of s3).trans im)),(by rw[hlv];exact hlen),rfl⟩,?_⟩
   obtain⟨g',y1,y2,y3,y4⟩:=fin H5 bR im kp r5 yw lK;have i6:a_ H (upd H5 l (.dT (putK ig ks (.ref a)))):=((a_.of s3).trans im).trans (a_.upd o9 rfl);have k6:∀b o,b∉l::g0->H b=some o->upd H5 l (.dT (putK ig ks (.ref a))) b=some o:=λb o n e=>by
    rw[aP (λq=>n (by rw[q];exact aar))];exact kp b o (λm=>(JH b m).elim (λq=>n (aaa _ q)) λq=>by rw[e] at q;cases q) (s3 b o e)
   obtain⟨agz,z1,z2,z3⟩:=a6 _ (.cZ (putD ak ks d1)) (l::g') i6 k6 (.cZ cB (ye gU) y1) (abV.mpr ⟨y3,y2⟩) (λb m=>(abb.mp m).elim (λq=>.inl (by rw[q];exact aar)) λm=>(y4 b m).imp (aaa _) id);obtain⟨z',iV⟩:=ok.put e0 hs zz i6 (λb o n e=>k6 b o (λm=>n (a5 b m)) e) z1 z2 z3;have e3':(bT ρ 0 (.ins cn (dR fl (.cZ (putD ak ks d1)) es)))[3]? = some none:=by unfold bT;rw[acO (by decide),aco,e3];rfl
   refine(iV.blank (x:=some (.ref a)) e3').stored (t:=.own) (i:=4) (aH.refl _) (rr.frame (λa m=>nomatch m) (a_.upd o9 rfl)) .nil λz2 xS=>?_
   exact sr xS e (kE.of ((Kp.set a3.N k3).trans (Kp.set h4 k4)))
end
end L2.Ev
namespace L2
open PySem PySem.Spec PyProof.Rows
def ZG(K:PySem.W.Frag):V->List V->Hp->VK->Prop:=λx vs H Q=>∃(l:Addr) (ts:List Int) (i:Int) (j:Nat),x=.ref l/\vs=[.int i]/\bZ K H l (ts.map V.int)/\ts[j]? = some i/\(∀m,m<j->ts[m]?≠some i)/\Q (.int j) H
theorem Pg(i y:Int)(t:Tok):iP (.int i) (.int y t)=(y==i):=rfl
theorem abY:DM X "list.index" (ZG X.K):=by
 exists 43;obtain⟨l,ts,i,j,rfl,rfl,hq,hj,DU,q⟩:=h;cases rx;obtain⟨u,rfl,ru⟩:=vals1 rv;obtain⟨t,rfl⟩:=ru;obtain⟨au,r,pl,hz⟩:=I.list hq;have hlen:=r.length;rw[List.length_map] at hlen hz;obtain⟨o,ho,hc,n,hd⟩:=pl.isList;obtain⟨c,dd,da,sl⟩:=o;cases hc;cases hd;have hjl:=(abL.mp hj).1;have u_:∀(m) (hm:m<au.toArray.size),∃y t',ts[m]? = some y/\au.toArray[m]=.int y t':=λm hm=>by
  have jU:m<ts.length:=by simp at hm;omega
  obtain⟨w,hw,eW⟩:=r.get (by rw[aco,abp jU];rfl);obtain⟨t',rfl⟩:=eW;refine⟨ts[m],t',abp jU,?_⟩;have:=(abL.mp hw).2;simpa using this
 have hsz:j<au.toArray.size:=by simp;omega
 refine call_meets F.slot_list_index ⟨_,ho,rfl⟩ F.entry_list_index (F.args_list_index_2 _ _) (SeqAt.list_indexAt l au.toArray n dd sl (.int i t) (iP (.int i)) j hsz (by rw[aeV] at hz;omega) ?_ (λm hm cU=>?_)) ⟨ho,λw hw=>vm (x:=.int i) ⟨t,rfl⟩ rfl r (by rw[ahb];exact ada.mpr λ_ _=>rfl) w (by simpa using hw),⟨.int j,H,I.tok _,⟨_,rfl⟩,q⟩⟩
 .obtain⟨y,t',h1,h2⟩:=u_ j hsz;rw[h2,Pg];rw[hj] at h1;cases h1;exact afl _
 .obtain⟨y,t',h1,h2⟩:=u_ m hm;rw[h2,Pg];refine agd.mpr λe=>DU m cU ?_
  rw[h1,eq_of_beq e]
end L2
namespace L2
theorem bu.m(r:bu k A cm)(h:j<=k:=by decide):bu j A cm:=r.mono h
end L2
namespace L2.Ev
open PySem PySem.Spec PyProof.Rows
def E9:D->D->Option D
 |.lst ds,.int i=>match d_ ds with
  |some ts=>(ts.findIdx? (· == i)).map λj:Nat=>.int j
  |none=>none
 |_,_=>none
theorem aed(ha:FP X a fa)(hb:FP X b fb)(hs:Y2 X b:=by rfl)(lQ:attributeBase a "index" X.env (eval a X.env)=eval a X.env:=by rfl)
  (lG:((backTo p3 (starEach [b] X.env)).all (λx=>!x.1)&&(backToKw p3 (keywordEach [] X.env)).all (λx=>x.1.isSome)&&decide ([b].length+([]:List Keyword).length+(if([]:List Keyword).isEmpty then 0 else 1)<30))=true:=by rfl)
  (lU:(p2.endLine==p3.line)=true:=by rfl):FP X (.Call (.Attribute a "index" p2) [b] [] p3) (e2 E9 fa fb):=by
 exists 51;exists 21,yP PySem.F.plainAttrs_list PySem.F.slot_list_index PySem.F.type_list_index abY pa (cP pb eT hs) lQ lG lU hs rfl;exists 86;exists 85
 cases d1 with
 |lst ds=>
  cases d2 with
  |int i=>
   have e3:(match d_ ds with|some ts=>(ts.findIdx? (· == i)).map λj:Nat=>D.int j|none=>none)=some d:=e3;cases h:d_ ds with
   |none=>rw[h] at e3;cases e3
   |some ts=>
    rw[h] at e3;dsimp only at e3;cases h2:ts.findIdx? (· == i) with
    |none=>rw[h2] at e3;cases e3
    |some j=>
     rw[h2] at e3;cases e3;obtain⟨l0,xs0,f0,rfl,hq0,rs0,_⟩:=r1.dY;refine⟨.inl ⟨rfl,_,hq0⟩,?_⟩;exists 54
     obtain⟨rfl,_⟩:=r2.iy;have IC:=r1.same s2;obtain⟨l,xs,f,e0,hq,rs,_⟩:=IC.dY;cases e0;have hx:=rq rs h;subst hx;obtain⟨hj,hp,DU⟩:=List.findIdx?_eq_some_iff_getElem.mp h2;refine⟨l0,ts,i,j,rfl,rfl,hq,?_,λm hm em=>?_,k H2 _ [] (s1.trans s2) (.int _) ⟨acj,λa m=>nomatch m⟩⟩
     .rw[abp hj,eq_of_beq hp]
     .obtain⟨jU,e'⟩:=abL.mp em;exact DU m hm (by rw[e'];exact afl _)
  |_=>cases e3
 |_=>cases e3
end L2.Ev
namespace L2
open PySem PySem.Spec PyProof.Rows
theorem Gv{K:PySem.W.Frag}(h:xK K=true):∀r∈jc K,jc K=[r]/\PySem.W.codeHdIn K r.1 r.2.1=true/\K.lookup r.2.1=none:=λr m=>by
 have ok:=((abn _ _).mp h).2
 split at ok
 .rename_i e;rw[e] at m;cases m
 .rename_i r' e;rw[e] at m;cases aa3.mp m;obtain⟨a,b⟩:=(abn _ _).mp ok;exact⟨e,a,by simpa using b⟩
 .cases ok
def uD(K:PySem.W.Frag):Hp:=λb=>match jc K with
 |[r]=>if b=r.2.1 then some (.iw r.2.2.1 r.2.2.2) else none
 |_=>none
theorem YW{K:PySem.W.Frag}
  (KX:K.In bO.heap) (wB:xK K=true) (ze:∀r∈jc K,bO.heap.get? r.2.1=some (PySem.W.tabObj #[])) (uf:bO.heap.Ns mainGlobals mg) (hb:bO.heap.Ns builtinsNs mb) (hbb:∀x:Str,x≠"__name__"->mb x=bootBuiltins x) (XX:bO.heap.NoLimit)
  (hbm:∃bm ob,mg "__builtins__"=some (.ref bm)/\bm≠builtinsNs/\bO.heap.get? bm=some ob/\ob.cls=.type "module"/\ob.dict=some builtinsNs/\ob.data=.plain) (hg:bO.gens=#[])
  (ha:bO.heap.get? a=some { cls:=.type "list",data:=.seq vs.toArray }) (hi:IntsAre vs ns) (hl:ns.length<=sizeLine) (hr:bu k callerA)
  (F:∀base:Heap,K.In base->base.Ns mainGlobals mg->bX P w K mg base CX k fa fd [x] sp) (ae2:∀(s) (u),BindsTo s fd ⟨[u],[]⟩ [(x,u)])
  (qF:∀H:Hp,Ev.qX K H a (ns.map V.int)->sp [.ref a] H (λv _=>v=.bl true) λ_ _ _=>False) (GC:∀H e s',CX [] H bO (λ_ _ _=>False) e s'->False) :
  codeAny (model P w) callerA (.call (.ref fa) ⟨[.ref a],[]⟩) (λr s'=>r=.ok (.ret (.bool true))/\OldK bO.heap s'.heap/\s'.os=bO.os/\AllBare s'.gens) bO:=by
 have rv:=JA hi;have afb:=hi.length;have tab_of:∀{b} {u},uD K b=some u->∃r∈jc K,b=r.2.1/\u=.iw r.2.2.1 r.2.2.2:=λ{b u} e=>by
  unfold uD at e
  split at e
  .rename_i r er;obtain⟨h,e⟩:=ci e;cases e;exact⟨r,by rw[er];exact List.mem_singleton_self r,h,rfl⟩
  .cases e
 have Nz:∀r∈jc K,uD K r.2.1=some (.iw r.2.2.1 r.2.2.2):=λr m=>by
  unfold uD;rw[(Gv wB r m).1];exact if_pos rfl
 have na:∀r∈jc K,r.2.1≠a:=λr m z=>by
  have:=ze r m;rw[z,ha] at this;cases this
 have core:∀H:Hp,Ev.qX K H a (ns.map V.int)->(∀b u,H b=some u->(b=a/\K.lookup a=none/\u=.eU { cls:=.type "list",data:=.seq vs.toArray } (.lst (ns.map V.int)))\/∃r∈jc K,b=r.2.1/\u=.iw r.2.2.1 r.2.2.2)->(∀r∈jc K,H r.2.1=some (.iw r.2.2.1 r.2.2.2))->
   codeAny (model P w) callerA (.call (.ref fa) ⟨[.ref a],[]⟩) (λr s'=>r=.ok (.ret (.bool true))/\OldK bO.heap s'.heap/\s'.os=bO.os/\AllBare s'.gens) bO:=by
  intro H hS hA hL;have aE:cM P w H bO.heap:=λb u e=>by
   rcases hA b u e with⟨rfl,_,rfl⟩|⟨r,m,rfl,rfl⟩
   .exact⟨ha,by rw[List.length_map];exact hl,vs,_,rv,ha⟩
   .exact⟨#[],ze r m,.inl rfl⟩
  have free:∀{b} {o},bO.heap.get? b=some o->(∀xs n,o.data≠.seq xs n)->(∀xs,o.data≠.fields xs)->H b=none:=λ{b o} e d1 d2=>by
   cases q:H b with
   |none=>rfl
   |some u=>
    rcases hA b u q with⟨rfl,_,_⟩|⟨r,m,rfl,_⟩
    .rw[ha] at e;cases e;exact absurd rfl (d1 _ _)
    .rw[ze r m] at e;cases e;exact absurd rfl (d2 _)
  have As:∀{b} {m},bO.heap.Ns b m->(qP bO.heap H).Ns b m:=λ{b m} ⟨o,es,ep,e,d,r⟩=>⟨o,es,ep,JK e (free e (λ_ _ z=>by rw[d] at z;cases z) λ_ z=>by rw[d] at z;cases z),d,r⟩
  have QF:K.In (qP bO.heap H):=λb o e=>JK (KX b o e) (by
   cases q:H b with
   |none=>rfl
   |some u=>
    rcases hA b u q with⟨rfl,z,_⟩|⟨r,m,rfl,_⟩
    .rw[z] at e;cases e
    .rw[(Gv wB r m).2.2] at e;cases e)
  obtain⟨bm,ob,b1,b2,b3,b4,b5,b6⟩:=hbm;have hM:Mod K mg (qP bO.heap H):=⟨QF,As uf,⟨mb,As hb,hbb⟩,let⟨mc,h1,h2⟩:=XX;⟨mc,As h1,h2⟩,bm,ob,b1,b2,JK b3 (free b3 (λ_ _ z=>by rw[b6] at z;cases z) λ_ z=>by rw[b6] at z;cases z),b4,b5,b6⟩
  have e0:tN P w K mg (qP bO.heap H) callerA [] bO H:=⟨rfl,hM,λb o e=>Ww e,Nat.le_of_eq (abW _ _),trivial,λb hb=>absurd (show b∈([]:List Addr) from hb) (by simp),aE,.of_eq hg,⟨.inl rfl,wB,hL⟩⟩
  refine codeAny_mono ((F _ QF (As uf)).run callerA [] bO H ⟨[.ref a],[]⟩ [.ref a] [.ref a] _ _ hr e0 (ae2 bO (.ref a)) (.cons rfl .nil) (qF H hS)) λr s' h=>?_
  cases r with
  |error e=>exact(GC H e s' h).elim
  |ok fl=>
   cases fl with
   |next=>exact False.elim h
   |brk=>exact False.elim h
   |cont=>exact False.elim h
   |ret u=>
    obtain⟨v,H',os,bare,un,Mc,r',q⟩:=h;have q':=q;subst q';obtain rfl:u=Value.bool true:=r';refine⟨rfl,⟨λb o e=>?_,λb o e=>un.there b o e (by simp)⟩,os,bare⟩;cases q:H b with
    |none=>exact .inl (un.keep b o e q (by intro z;exact absurd (show b∈([]:List Addr) from z) (by simp)) (by simp))
    |some u=>
     rcases hA b u q with⟨rfl,_,rfl⟩|⟨r,m,rfl,rfl⟩
     .have z2:=un.jo b _ _ q;obtain⟨e1,_⟩:=aE b _ q;obtain⟨e2,_⟩:=Mc b _ z2;rw[e] at e1;cases e1;exact .inl e2
     .have z2:=un.jl r.2.1 (.iw _ _) q;obtain⟨ps,e2,_⟩:=Mc _ _ z2;rw[ze r m] at e;cases e;exact .inr (.inl ⟨((PySem.W.codeHd_of_K KX (Gv wB r m).2.1).tab (ze r m)).isCodeTable,rfl,#[],ps,rfl,by simpa using e2⟩)
 cases hk:K.lookup a with
 |some o=>
  have e:=KX a o hk;rw[ha] at e;cases e;refine core (uD K) (.inr ⟨_,vs.toArray,_,hk,rfl,rfl,rfl,by rw[ab2,afb];exact hl,by simpa using rv⟩) (λb u z=>.inr (tab_of z)) Nz
 |none=>
  refine core (λb=>if b=a then some (.eU { cls:=.type "list",data:=.seq vs.toArray } (.lst (ns.map V.int))) else uD K b) (.inl ⟨{ cls:=.type "list",data:=.seq vs.toArray },if_pos rfl⟩) (λb u z=>?_) λr m=>(if_neg (na r m)).trans (Nz r m)
  by_cases hb:b=a
  .have z':=(if_pos hb).symm.trans z;cases z';exact .inl ⟨hb,hk,rfl⟩
  .exact .inr (tab_of ((if_neg hb).symm.trans z))
theorem afx{l:PySem.W.OpenLaw}{K:Params->PySem.W.Frag}{CX:World->qf}{sp:World->Sp}
  (hn:l.most=some n) (tU:n<=sizeLine) (zp:d.params.defaults=[]) (hr:bu k callerA) (hY:∀(w) (h),YP w h->(K w.params).In h) (hT:∀(w) (h),YP w h->∀r∈jc (K w.params),h.get? r.2.1=some (PySem.W.tabObj #[])) (hL:∀w:World,xK (K w.params)=true)
  (F:∀(w) (mg) (fa) (h),(K w.params).In h->h.Ns mainGlobals mg->mg d.name=some (.ref fa)->
   ∃fd:FuncData,(∀(s) (u),BindsTo s fd ⟨[u],[]⟩ [(x,u)])/\∀base:Heap,(K w.params).In base->base.Ns mainGlobals mg->bX l.prog w (K w.params) mg base (CX w) k fa fd [x] (sp w))
  (qF:∀(w) (H) (a) (ns:List Int),ns.length<=n->Ev.qX (K w.params) H a (ns.map V.int)->sp w [.ref a] H (λv _=>v=.bl true) λ_ _ _=>False)
  (GC:∀(w) (H) (s) (e) (s'),CX w [] H s (λ_ _ _=>False) e s'->False) :
  PySem.W.WalkO q loose XP YP l.row.toRowW d [] (λf vs=>PySem.call f vs):=by
 refine Mb.aal hn zp λw cG bO mg mb fa o pm cd doc a vs ns G Y ho hd g7 zE HX hints hlen hg=>?_
 obtain⟨fd,hb,hF⟩:=F w mg fa _ (hY w _ Y) G.T.g zE;exact YW (hY w _ Y) (hL w) (hT w _ Y) G.T.g G.T.b G.T.builtins G.T.nolimit G.T.bmain hg HX hints (adE hlen tU) hr hF hb (λH hS=>qF w H a ns hlen hS) λH e s'=>GC w H bO e s'
end L2
namespace L2.Ev
open PySem PySem.Spec PySem.W PyProof.Rows
structure Z where
 P:Program
 w:World
 K:Frag
 mg:Str->Option Value
 base:Heap
structure En(L:Ls)(z:Z):Prop where
 b:∀{x},L.bt.contains x=true->z.mg x=none
 i:∀{x} {n},L.gi.lookup x=some n->∃t,z.mg x=some (.int n t)
 t:∀{x} {l},L.tp.lookup x=some l->∃a,z.mg x=some (.ref a)/\BW z.K a l
 c:∀c:Str,L.cl.contains c=true->ClsAt z.K c (cA z.K c)
 m:∀{c},L.cl.contains c=true->z.mg c=some (.ref (cA z.K c))
 n:∀{c a},L.na.contains (c,a)=true->jr z.K (cA z.K c) a
 ni:L.ni=true->qw z.K=true
 g:∀{c},L.ex.contains c=true->nsIn z.K mainGlobals c=some (some (.ref (cA z.K c)))
 e:∀{c},L.ex.contains c=true->z.mg c=some (.ref (cA z.K c))
 x:∀{c},L.xc.contains c=true->Cc z.K (cA z.K c)
 ct:∀{c} {ns},L.ct.lookup c=some ns->acs z.K ns (cA z.K c)
 kt:∀{c} {tb},L.kt.lookup c=some tb->F8 z.K tb (kv z.K c)
 ki:∀{c} {p},L.ki.lookup c=some p->aaW z.K p.2 (p.1.map (cA z.K))
def k8(s:Stmt):List Str:=(l8 s).args.map (·.arg)
theorem Kw:∀{l:List Str} {us},us.map strOf=l.map some->aU (l.map V.str) us
 |[],[],_=>.nil
 |[],_::_,e=>nomatch e
 |_::_,[],e=>nomatch e
 |a::l,u::us,e=>by
  obtain⟨e1,e2⟩:=List.cons.inj e;refine .cons ?_ (Kw e2);cases u<;>cases e1
  exact⟨_,rfl⟩
theorem adl{K:Frag}(q:EA K x l=true):∃a,nsIn K mainGlobals x=some (some (.ref a))/\BW K a l:=by
 unfold EA at q
 split at q
 .rename_i a h;refine⟨a,h,?_⟩
  split at q
  .rename_i c au n sl h1;simp only[abn,afJ,ahl] at q;exact⟨_,au,_,h1,q.1.1,rfl,rfl,q.1.2,Kw q.2⟩
  .cases q
 .cases q
theorem qD:∀{l:List (Str×β)},l.lookup x=some y->(x,y)∈l
 |[],e=>nomatch e
 |(a,b)::l,e=>by
  rw[aet] at e
  by_cases h:(x==a)=true
  .rw[h] at e;cases e;rw[eq_of_beq h];exact .head _
  .rw[show(x==a)=false by simpa using h] at e;exact .tail _ (qD e)
theorem K5{K:Frag}(h:ek K r=true):oV K (cA K r):=by
 unfold ek at h;simp only[abn,afJ] at h;obtain⟨⟨⟨⟨⟨⟨h1,h2⟩,h3⟩,h4⟩,h5⟩,h6⟩,h7⟩:=h;exact⟨h1,h2,h3,h4,h5,h6,h7,UY h6⟩
theorem abP{L:Ls}{K:Frag}(X:K.In h)(G:h.Ns mainGlobals mg)(q:rB L K=true):En L ⟨P,w,K,mg,base⟩:=by
 unfold rB at q;simp only[abn,ada,afJ] at q;obtain⟨⟨⟨⟨⟨⟨qi,qx⟩,q1⟩,q2⟩,q3⟩,q4⟩,q5⟩:=q;unfold KQ at qx;simp only[abn,ada,afJ,adB] at qx;obtain⟨⟨⟨⟨x1,x2⟩,x3⟩,x4⟩,x5⟩:=qx;have cx:∀{r} {C},r∈L.ex->nsIn K mainGlobals r=some (some (.ref C))->C=cA K r:=λm e=>by
  rw[x1 _ m] at e;cases e;rfl
 have cl:∀c:Str,L.cl.contains c=true->xU K c=true:=λc h=>q4 c (adB.mp h)
 refine⟨λh=>mg_none_of X G (q1 _ (adB.mp h)),λ{x n} h=>?_,λh=>?_,λc h=>?_,λ{c} h=>?_,λh=>q5 _ (adB.mp h),λh=>?_,λh=>x1 _ (adB.mp h),λh=>mg_of X G (x1 _ (adB.mp h)),λh=>aa5 (x2 _ (adB.mp h)),λh cn C h1 hn=>?_,λh cn b C h1 hn=>?_,λh cn b C h1 hn=>?_⟩
 .have:=q2 _ (qD h);unfold LL at this
  split at this
  .rename_i m t e;cases eq_of_beq this;exact⟨t,mg_of X G e⟩
  .cases this
 .obtain⟨a,e,t⟩:=adl (q3 _ (qD h));exact⟨a,mg_of X G e,t⟩
 .have:=cl c h;unfold xU at this;simp only[abn,afJ] at this;obtain⟨⟨⟨⟨⟨⟨h1,h2⟩,h3⟩,h4⟩,h5⟩,_⟩,_⟩:=this;exact⟨h1,⟨h2,h3,h4,h5⟩⟩
 .have:=cl c h;unfold xU at this;simp only[abn,afJ] at this;exact mg_of X G this.1.1.1.1.1.1
 .rw[h] at qi;exact qi
 .obtain⟨⟨a1,a2⟩,a3⟩:=x3 _ (qD h);obtain⟨⟨b1,b2⟩,b3⟩:=a3 cn (adB.mp h1);cases cx b2 hn;exact acw (Sf (x2 _ b1)) (Sf (x2 _ a1)) b3 a2
 .obtain⟨⟨a1,a2⟩,a3⟩:=x4 _ (qD h) _ (qD h1);cases cx a1 hn;exact⟨K5 a2,a3⟩
 .obtain⟨⟨a1,a2⟩,a3⟩:=x5 _ (qD h) _ (qD h1);cases cx a1 hn;exact⟨K5 a2,a3⟩
theorem adJ{K:Frag}(q:rB L K=true)(h:L.cl.contains c=true):makesIn K (cA K c)=true/\keepIn K (.ref (cA K c))=true:=by
 unfold rB at q;simp only[abn,ada] at q;have:=q.1.2 c (adB.mp h);unfold xU at this;simp only[abn] at this;exact⟨this.1.2,this.2⟩
theorem R8{K:Frag}(e:Ic K q v=some (fnOf x q (l8 s) (gO s) (cz s) .none .none .none .none none .none .none)):∃f,v=some (some (.ref f))/\isFn K (.ref f)=true/\GL K x q s f:=by
 unfold Ic at e
 split at e
 .rename_i a
  split at e
  .rename_i oc od fd sl h;obtain⟨hc,e⟩:=ci e;simp only[abn] at hc;refine⟨a,rfl,hc.2,?_⟩;obtain⟨n,qn,pa,bo,sc,gl,cl,df,kw,dc,pm,an,cd,ct,bi⟩:=fd;unfold O9 at e;injection e with e;injection e with e1 e2 e3 e4 e5 e6 e7 e8 e9 e10 K3 e12 e13 e14 Ug;subst e1 e2 e3 e4 e5 e6 e7 e8 Ug;exact⟨_,_,_,_,_,_,_,_,_,h,hc.1.1,hc.1.2⟩
  .cases e
 .cases e
theorem Lv{K:Frag}{tab:List (Str×Stmt)}{i:Nat}(t:tab.map (look K)=tab.map want)(e:tab[i]? = some p):look K p=want p:=by
 have:=congrArg (·[i]?) t;simp only[aco,e,Option.map_some] at this;exact ab1 this
theorem PV{K:Frag}{tab:List (Str×Stmt)}(i:Nat){s:Stmt}(t:tab.map (look K)=tab.map want)(e:tab[i]? = some (Str.empty,s)):Dk K (iO s) s:=by
 obtain⟨f,h,_,g⟩:=R8 (Lv t e);exact⟨f,h,g⟩
theorem IM{K:Frag}{tab:List (Str×Stmt)}(i:Nat){c:Str}(t:tab.map (look K)=tab.map want)(e:tab[i]? = some (c,s))(n:(c==Str.empty)=false):GM K (cA K c) (iO s) (iG c s) s:=by
 obtain⟨f,h,i,g⟩:=R8 (Lv t e);refine⟨f,?_,i,g⟩;rw[n] at h;exact h
section
variable(z:Z)(k:Nat)(c:Str)(s:Stmt)(sp:Frag->Sp)(cm:Bool:=true)
def Z.D:Prop:=∀(f) (fd),jd z.K (iO s) (iG c s) s f fd->bX z.P z.w z.K z.mg z.base c9 k f fd (k8 s) (sp z.K) cm
def Z.DR:Prop:=∀(f) (fd),jd z.K (iO s) (iG c s) s f fd->bX z.P z.w z.K z.mg z.base (iz z.P z.w) k f fd (k8 s) (sp z.K) cm
def Z.N:Prop:=FN z.P z.w z.K z.mg z.base c9 k (iO s) (k8 s) (sp z.K) cm
def Z.M:Prop:=MT z.P z.w z.K z.mg z.base c9 k (cA z.K c) (iO s) (k8 s) (sp z.K) cm
def Z.MR:Prop:=MT z.P z.w z.K z.mg z.base (iz z.P z.w) k (cA z.K c) (iO s) (k8 s) (sp z.K) cm
def Z.I:Prop:=MI z.P z.w z.K z.mg z.base c9 k (cA z.K c) (k8 s) (sp z.K) cm
end
section
variable{K:Frag}
theorem FN.G(W:FN P w K mg base CX k x ps sp cm):bX P w K mg base CX k W.choose W.choose_spec.choose ps sp cm:=W.choose_spec.choose_spec.1
theorem FN.m(W:FN P w K mg base CX k x ps sp cm):mg x=some (.ref W.choose):=W.choose_spec.choose_spec.2.1
theorem FN.kp(W:FN P w K mg base CX k x ps sp cm):keepIn K (.ref W.choose)=true:=W.choose_spec.choose_spec.2.2.1
theorem FN.b(W:FN P w K mg base CX k x ps sp cm):Binds K W.choose_spec.choose ps []:=W.choose_spec.choose_spec.2.2.2
theorem MT.G(W:MT P w K mg base CX k C x ps sp cm):bX P w K mg base CX k W.choose W.choose_spec.choose ps sp cm:=W.choose_spec.choose_spec.1
theorem MT.b(W:MT P w K mg base CX k C x ps sp cm):Binds K W.choose_spec.choose ps []:=W.choose_spec.choose_spec.2.1
theorem MT.t(W:MT P w K mg base CX k C x ps sp cm):kG K C x W.choose:=W.choose_spec.choose_spec.2.2
theorem MI.G(W:MI P w K mg base CX k C ps sp cm):bX P w K mg base CX k W.choose W.choose_spec.choose ps sp cm:=W.choose_spec.choose_spec.1
theorem MI.b(W:MI P w K mg base CX k C ps sp cm):Binds K W.choose_spec.choose ps []:=W.choose_spec.choose_spec.2.1
theorem MI.M(W:MI P w K mg base CX k C ps sp cm):Mk K C W.choose:=W.choose_spec.choose_spec.2.2
end
def jj(s:Stmt):List Str:=(cz s).names.filterMap λy=>if y.2 == .local||y.2 == .cell then some y.1 else none
def yt(n m:Nat)(s:Stmt):Prop:=o7 (jj s) (k8 s) (cz s)/\(k8 s).length=n/\(jj s).length=m/\n<=m
section
variable{z:Z}
theorem Z.oF(S:yt n m s)(h:∀(f) (fd:FuncData) (aR:{c:Value // c=fd.code}) (A) (o) (t) (H) (E),bu k (A.deeper (envOfC (iG c s) (cz s) t.heap.objs.size f aR)) cm->(jj s).Nodup->FS (fU c9 z.P z.w z.K z.mg z.base (jj s) (iG c s) (cz s) f aR A o t H E cm).eZ (gO s) b):
  z.D (k+1) c s (bz · (bJ n m b)) cm:=by
 obtain⟨S,rfl,rfl,_⟩:=S;exact λ_ _ F=>Ro F S λaR A o t H E hr=>h _ _ aR A o t H E hr S.nd
theorem Z.oQ(S:yt n m s)(h0:(jj s)[0]? = some x0)(h:∀(f) (aR) (A) (o) (t) (H) (E),bu k (A.deeper (envOfC (iG c s) (cz s) t.heap.objs.size f aR))->(jj s).Nodup->FQ im ((fU c9 z.P z.w z.K z.mg z.base (jj s) (iG c s) (cz s) f aR A o t H E).eZ.kO [x0]) (gO s) b):
  z.D (k+1) c s (Fg im · (runM n m b)):=by
 obtain⟨S,rfl,rfl,l⟩:=S;exact λ_ _ F=>UW F S h0 λaR A o t H E hr=>h _ aR A o t H E hr S.nd
theorem Z.oM(S:yt n m s)(h0:(jj s)[0]? = some x0)(h:∀(f) (aR) (A) (o) (t) (H) (E),bu k (A.deeper (envOfC (iG c s) (cz s) t.heap.objs.size f aR))->(jj s).Nodup->FQ true ((fU c9 z.P z.w z.K z.mg z.base (jj s) (iG c s) (cz s) f aR A o t H E).eZ.kO [x0]) (gO s) b):
  z.D (k+1) c s (dJ · (runM n m b)):=λ_ _ F=>(Z.oQ S h0 h _ _ F).imp TZ
theorem Z.oR(S:yt n m s)(h:∀(f) (aR) (A) (o) (t) (H) (E),bu k (A.deeper (envOfC (iG c s) (cz s) t.heap.objs.size f aR))->(jj s).Nodup->FS (fU (iz z.P z.w) z.P z.w z.K z.mg z.base (jj s) (iG c s) (cz s) f aR A o t H E) (gO s) b):
  z.DR (k+1) c s (sP · (qW n m b)):=by
 obtain⟨S,rfl,rfl,l⟩:=S;exact λ_ _ F=>WG F S l λaR A o t H E hr=>h _ aR A o t H E hr S.nd
end
section
variable{K:Frag}{tab:List (Str×Stmt)}
theorem d9(X:K.In h)(G:h.Ns mainGlobals mg)(t:tab.map (look K)=tab.map want)(i:Nat)(o:Z.D ⟨P,w,K,mg,base⟩ k Str.empty s sp cm)(b:BA (iO s) (iO s) s (k8 s):=by walk_at "ba")(e:tab[i]? = some (Str.empty,s):=by rfl):Z.N ⟨P,w,K,mg,base⟩ k s sp cm:=Yr X G (PV i t e) (λF=>o _ _ F) b
theorem cY(t:tab.map (look K)=tab.map want)(i:Nat)(o:Z.D ⟨P,w,K,mg,base⟩ k c s sp cm)(b:BA (iO s) (iG c s) s (k8 s):=by walk_at "ba")(e:tab[i]? = some (c,s):=by rfl)(n:(c==Str.empty)=false:=by rfl):Z.M ⟨P,w,K,mg,base⟩ k c s sp cm:=PF (IM i t e n) (λF=>o _ _ F) b
theorem W_r(t:tab.map (look K)=tab.map want)(i:Nat)(o:Z.DR ⟨P,w,K,mg,base⟩ k c s sp cm)(b:BA (iO s) (iG c s) s (k8 s):=by walk_at "ba")(e:tab[i]? = some (c,s):=by rfl)(n:(c==Str.empty)=false:=by rfl):Z.MR ⟨P,w,K,mg,base⟩ k c s sp cm:=PF (IM i t e n) (λF=>o _ _ F) b
theorem F4(t:tab.map (look K)=tab.map want)(q:rB L K=true)(i:Nat)(o:Z.D ⟨P,w,K,mg,base⟩ k c s sp cm)(b:BA (iO s) (iG c s) s (k8 s):=by walk_at "ba")(e:tab[i]? = some (c,s):=by rfl)(n:(c==Str.empty)=false:=by rfl)(y:iO s="__init__":=by rfl)(v:L.cl.contains c=true:=by rfl):Z.I ⟨P,w,K,mg,base⟩ k c s sp cm:=by
 have l:=IM i t e n;obtain⟨a,b'⟩:=adJ q v;obtain⟨f,e1,i,l⟩:=l;obtain⟨kp,fd,F⟩:=Et l;rw[y] at e1;exact⟨f,fd,o _ _ F,F.binds b,⟨a,e1,i,b'⟩⟩
end
section
variable{st:Stmt}
theorem ba_n(n:Nat)(h:ps.length=n)(e:∀(kV doc pm) (an) (aR ct) (f:Fin n->Value),bindArgs (fnOf x q (l8 st) (gO st) (cz st) .none kV doc pm an aR ct) ⟨List.ofFn f,[]⟩=pure (ps.zip (List.ofFn f))):BA x q st ps:=λkV doc pm an aR ct us hl=>by
 obtain rfl:=hl.trans h;have:=e kV doc pm an aR ct λi=>us[(i:Nat)]
 rwa [List.ofFn_getElem] at this
end
theorem pF(h:∃t,X.mg x=some (.int n t))(hg:GD X x:=by exact⟨rfl,by decide⟩):FP X (.Name x pos) (eC (.int n)):=let⟨_,h⟩:=h;aba h hg
theorem QI(h:∃t,X.mg x=some (.ref t)/\BW X.K t ys)(hg:GD X x:=by exact⟨rfl,by decide⟩):FP X (.Name x pos) (eC (.tup (ys.map D.str))):=let⟨_,h,t⟩:=h;aa6 h t hg
theorem iE(h3:X.env.kindOf=λx=>X.env.scope.names.lookup x)(h:yN X.N X.env.scope sc M js=true):nS X M js sc:=Yc rfl rfl h3 h
section
variable{A:Z->Prop}
noncomputable abbrev wF{F:List D->Option D}(_:∀z,A z->z.D k c s (bz · F) cm)(z:Z):Prop:=z.N k s (bz · F) cm
noncomputable abbrev wG{F:List D->Option D}(_:∀z,A z->z.D k c s (bz · F) cm)(z:Z):Prop:=z.M k c s (bz · F) cm
noncomputable abbrev wO{F:MF}(_:∀z,A z->z.D k c s (dJ · F) cm)(z:Z):Prop:=z.M k c s (dJ · F) cm
noncomputable abbrev wI{F:MF}(_:∀z,A z->z.D k c s (dJ · F) cm)(z:Z):Prop:=z.I k c s (dJ · F) cm
noncomputable abbrev wR{F:List D->Option Rz}(_:∀z,A z->z.DR k c s (sP · F) cm)(z:Z):Prop:=z.MR k c s (sP · F) cm
noncomputable abbrev fF{F:List D->Option D}(_:∀z,A z->z.D k c s (bz · F) cm):List D->Option D:=F
noncomputable abbrev fO{F:MF}(_:∀z,A z->z.D k c s (dJ · F) cm):MF:=F
noncomputable abbrev fR{F:List D->Option Rz}(_:∀z,A z->z.DR k c s (sP · F) cm):List D->Option Rz:=F
end
end L2.Ev
namespace L2.Ev
open PySem PySem.Spec PyProof.Rows
noncomputable abbrev JF:=List D->Option (D×List D)
noncomputable def mL(J:List Nat):Nat->List D->aO
 |_,[]=>[]
 |i,d::r=>some (d,if J.contains i=true then Tag.own else Tag.sh [])::mL J (i+1) r
def mV(J:List Nat)(n N:Nat)(b:SF):JF:=λds=>if ds.length=n then(match b (mL J 0 ds++List.replicate (N - ds.length) none) with
 |some (.rt (.tup (r::es)))=>some (r,es)
 |some (.nx ρ)=>(j6 J ρ).map λes=>(.aA,es)
 |_=>none) else none
structure aem(K:PySem.W.Frag)(H:Hp)(J:List Nat)(C:List Addr)(y:Addr->Option Nat)(ds:List D)(vs:List V):Prop where
 ln:ds.length=vs.length
 sl:∀i d,ds[i]? = some d->∃v f,vs[i]? = some v/\Rep K H d v f/\(i∈J->f.Nodup/\∀a∈f,y a=some i)/\(i∉J->∀a∈f,y a=none)
 dm:∀a j,y a=some j->a∈C
 mu:∀a∈C,∃o,H a=some o/\i7 o=true
def m_(J:List Nat)(K:PySem.W.Frag)(G:JF):Sp:=λvs H Q _=>∃ds C y r es,aem K H J C y ds vs/\G ds=some (r,es)/\
 ∀H' v cH (nf:Nat->List Addr),a_ H H'->(∀b o,b∉C->H b=some o->H' b=some o)->(∀k l a,a∈nf k->a∈nf l->k=l)->
  (∀k i,J[k]? = some i->∃d u,es[k]? = some d/\vs[i]? = some u/\Rep K H' d u (nf k)/\(nf k).Nodup/\∀a∈nf k,a∈C\/H a=none)->
  Rep K H' r v cH->cH.Nodup->(∀b∈cH,(b∈C\/H b=none)/\∀k,b∉nf k)->es.length=J.length->Q v H'
theorem QL:∀{ds} {k i},(mL J k ds)[i]? = (ds[i]?).map λd=>some (d,if J.contains (k+i)=true then Tag.own else Tag.sh [])
 |[],k,i=>by simp[mL]
 |d::ds,k,0=>rfl
 |d::ds,k,i+1=>by
  show(mL J (k+1) ds)[i]? = _;rw[QL,Nat.add_right_comm];rfl
theorem BV:∀{ds} {k},(mL J k ds).length=ds.length
 |[],_=>rfl
 |d::ds,k=>by show(mL J (k+1) ds).length+1=_;rw[BV];rfl
theorem Mi:∀{J} {ρ} {es},j6 J ρ=some es->es.length=J.length/\∀(k i:Nat),J[k]? = some i->∃d,es[k]? = some d/\ρ[i]? = some (some (d,Tag.own))
 |[],ρ,es,h=>by cases h;exact⟨rfl,λk i e=>by simp at e⟩
 |j::J,ρ,es,h=>by
  unfold j6 at h
  split at h
  .rename_i d e;obtain⟨d8,h',rfl⟩:=acq.mp h;obtain⟨l,c⟩:=Mi h';refine⟨by rw[acf,acf,l],λk i e2=>?_⟩;cases k with
   |zero=>cases e2;exact⟨d,rfl,e⟩
   |succ k=>exact c k i e2
  .cases h
noncomputable def MX(N xs:List Str)(J:List Nat):Bool:=J.all λi=>match N[i]? with
 |some x=>x==("self":Str)||(!(xs.contains ("self":Str))&&!(!(xs.contains x)))
 |none=>false
section
variable{K:PySem.W.Frag}
theorem Xh{st:Stmt}(F:jd K x qual st f fd)(S:o7 N ps (cz st))(h0:MX N xs J=true)(hJ:J.Nodup)(pJ:ps.length<=N.length)
  (hb:∀(aR) (A) (outer) (s) (H) (E),bu k (A.deeper (envOfC qual (cz st) s.heap.objs.size f aR))->FJ J false ((fU c9 P w K mg base N qual (cz st) f aR A outer s H E).eZ.kO xs) (gO st) b) :
  bX P w K mg base c9 (k+1) f fd ps (m_ J K (mV J ps.length N.length b)):=by
 have mh:∀{ds} {r},mV J ps.length N.length b ds=some r->ds.length=ps.length:=λ{ds r} e=>by
  unfold mV at e
  split at e
  .assumption
  .cases e
 refine F.ok S (λvs H Q E h=>?_) λaR A outer s H vs Q E hr h=>?_<;>obtain⟨ds,C,y,r,es,a,e,q⟩:=h
 .rw[<- a.ln,mh e]
 .obtain⟨t,pt,sd⟩:=hb aR A outer s H E hr;refine⟨t,pt.kO rfl,?_⟩;have hl:=mh e;have ok:Ok K H C y [] (mL J 0 ds++List.replicate (N.length-ds.length) none) (start N vs) H:=by
   unfold start;refine⟨λi d t e=>?_,(λp m=>by cases m),(λa' j e=>⟨let⟨o,w,_⟩:=a.mu a' (a.dm a' j e);⟨o,w⟩,.inr (a.dm a' j e)⟩),(λa o e _=>e),?_⟩
   .by_cases hi:i<ds.length
    .rw[aea (by rw[BV];exact hi),QL,abp hi] at e;cases e;obtain⟨v,g,hv,rv,h1,h2⟩:=a.sl i _ (abp hi);refine⟨v,g,(aea (by rw[List.length_map,<- a.ln];exact hi)).trans (by rw[aco,hv];rfl),rv,?_⟩;rw[aha]
     by_cases hj:i∈J
     .rw[if_pos (adB.mpr hj)];exact h1 hj
     .rw[if_neg λq=>hj (adB.mp q)];intro a' m j e;rw[h2 hj a' m] at e;cases e
    .rw[aeB (by rw[BV];lia),agK] at e
     split at e<;>cases e
   .simp only[abN,List.length_map,List.length_replicate,BV];have:=a.ln
    lia
  have fin:∀{z} {ρ} {σ} {H'} {v} {cH},Ok K H C z [] ρ σ H'->j6 J ρ=some es->Kp ((fU c9 P w K mg base N qual (cz st) f aR A outer s H E).eZ.kO xs) (start N vs) σ->Rep K H' r v cH->cH.Nodup->(∀b∈cH,(H b=none\/b∈C)/\∀i∈J,z b≠some i)->Q v H':=by
   intro z ρ σ H' v cH aT h1 kp rr xM qM;obtain⟨le,at_⟩:=Mi h1;have ex:∀k:Nat,∃g:List Addr,(∀i,J[k]? = some i->∃d u,es[k]? = some d/\vs[i]? = some u/\Rep K H' d u g/\g.Nodup/\(∀a∈g,z a=some i))/\(J[k]? = none->g=[]):=λk=>by
    cases hk:J[k]? with
    |none=>exact⟨[],(λi e=>nomatch e),λ_=>rfl⟩
    |some i=>
     obtain⟨d,e1,e2⟩:=at_ k i hk;obtain⟨u,g,hs,r1,zz⟩:=aT.sl i d .own e2;refine⟨g,λi' e'=>?_,λe'=>nomatch e'⟩;cases e';refine⟨d,u,e1,?_,r1,zz.1,zz.2⟩;have hi:=ada.mp h0 i (aeL hk);cases hN:N[i]? with
     |none=>rw[hN] at hi;cases hi
     |some x=>
      rw[hN] at hi;have hk:=kp i x hN hi;rw[hs] at hk;have il:i<vs.length:=by
       by_cases hv:i<vs.length
       .exact hv
       .exfalso
        unfold start at hk;rw[aeB (by rw[List.length_map];lia),agK] at hk
        split at hk<;>cases hk
      unfold start at hk;rw[aea (by rw[List.length_map];exact il),aco] at hk;cases hv:vs[i]? with
      |none=>rw[hv] at hk;cases hk
      |some u'=>rw[hv] at hk;cases hk;rfl
   obtain⟨nf,hn⟩:=Classical.axiomOfChoice ex;have zk:∀k a,a∈nf k->∃i,J[k]? = some i/\z a=some i:=λk a m=>by
    cases hk:J[k]? with
    |none=>rw[(hn k).2 hk] at m;cases m
    |some i=>obtain⟨_,_,_,_,_,_,c⟩:=(hn k).1 i hk;exact⟨i,rfl,c a m⟩
   have dD:∀{c} {o},H c=some o->i7 o=false->H' c=some o:=λ{c o} e' mo=>aT.en c _ e' λm=>by
    obtain⟨o',w,lV⟩:=a.mu c m;rw[e'] at w;cases w;rw[mo] at lV;cases lV
   refine q H' v cH nf ⟨λc xs e'=>dD e' rfl,λc o u e'=>dD e' rfl,λc φ e'=>dD e' rfl⟩ (λc o n e'=>aT.en c o e' n) (λk l a m m'=>?_) (λk i e=>?_) rr xM (λc m=>⟨(qM c m).1.symm,λk m'=>?_⟩) le
   .obtain⟨i,h1,h2⟩:=zk k a m;obtain⟨j,h3,h4⟩:=zk l a m';rw[h2] at h4;cases h4;obtain⟨lk,ek⟩:=abL.mp h1;obtain⟨ll,el⟩:=abL.mp h3;exact(List.getElem_inj hJ).mp (ek.trans el.symm)
   .obtain⟨d,u,a1,a2,a3,a4,a5⟩:=(hn k).1 i e;exact⟨d,u,a1,a2,a3,a4,λa m=>((aT.zd a i (a5 a m)).2).symm⟩
   .obtain⟨i,h1,h2⟩:=zk k c m';exact(qM c m).2 i (aeL h1) h2
  unfold mV at e;rw[if_pos hl] at e;cases ho:b (mL J 0 ds++List.replicate (N.length-ds.length) none) with
  |none=>rw[ho] at e;cases e
  |some o=>
   rw[ho] at e;refine sd ok ho ?_;cases o with
   |rt p=>
    have hp:p=.tup (r::es):=by
     split at e<;>rename_i hh
     .cases e;cases hh;rfl
     .cases hh
     .cases e
    exact⟨r,es,hp,λz ρ σ H' v cH aT h1 kp rr nd fr _=>fin aT h1 kp rr nd fr⟩
   |nx ρ'=>
    obtain⟨d8,h1,e2⟩:=acq.mp e;cases e2;exact λz σ H' aT kp=>fin aT h1 kp .aA acj λb m=>nomatch m
   |bk _=>cases e
   |ct _=>cases e
   |er _ _ _=>cases e
end
def lT:aO->List Nat->List D->aO
 |ρ,j::js,e::es=>lT (bT ρ j e) js es
 |ρ,_,_=>ρ
theorem P7:∀{js} {es} {ρ},(lT ρ js es).length=ρ.length
 |[],_,_=>rfl
 |_::_,[],_=>rfl
 |j::js,e::es,ρ=>by show(lT (bT ρ j e) js es).length=_;rw[P7,Ax]
theorem Gs:∀{js} {es} {ρ} {j} {d} {t},js.length=es.length->j∉js->(lT ρ js es)[j]? = some (some (d,t))->ρ[j]? = some (some (d,t))/\∀o,t=.sh o->∀i∈js,i∉o
 |[],[],_,_,_,_,_,_,h=>⟨h,λ_ _ _ m=>nomatch m⟩
 |i::js,e::es,ρ,j,d,t,l,n,h=>by
  obtain⟨h1,h2⟩:=Gs (by simpa using l) (λm=>n (aaa _ m)) h;obtain⟨h3,h4⟩:=IA (λq=>n (by rw[q];exact aar)) h1;refine⟨h3,λo ho k m=>?_⟩;rcases abb.mp m with rfl|m
  .exact h4.resolve_left (λq=>q) o ho
  .exact h2 o ho k m
theorem RY:∀{js} {es} {ρ} {j} {d},j∉js->ρ[j]? = some (some (d,.own))->(lT ρ js es)[j]? = some (some (d,.own))
 |[],_,_,_,_,_,h=>h
 |_::_,[],_,_,_,_,h=>h
 | i::js,e::es,ρ,j,d,n,h=>RY (ρ:=bT ρ i e) (λm=>n (aaa _ m)) (by
  unfold bT;rw[acO λq=>n (by rw[q];exact aar),aco,h];rfl)
theorem Q5:∀{js} {es} {ρ}{k j:Nat} {d},js.Nodup->js[k]? = some j->es[k]? = some d->j<ρ.length->(lT ρ js es)[j]? = some (some (d,.own))
 |[],_,_,_,_,_,_,h,_,_=>by simp at h
 |_::_,[],_,_,_,_,_,_,h,_=>by simp at h
 |i::js,e::es,ρ,0,j,d,n,h1,h2,l=>by
  cases h1;cases h2;exact RY (js:=js) (abV.mp n).1 (HY (abp l))
 |i::js,e::es,ρ,k+1,j,d,n,h1,h2,l=>Q5 (ρ:=bT ρ i e) (abV.mp n).2 h1 h2 (by rw[Ax];exact l)
section
variable{K:PySem.W.Frag}
theorem Ok.afX{C:List Addr}{nf:Nat->List Addr}(ok:Ok K H0 S z aq ρ σ H)(nd:js.Nodup)(le:es.length=js.length)(old:∀j∈js,∃d,ρ[j]? = some (some (d,.own)))(im:a_ H H')(hz:∀a∈C,∃j∈js,z a=some j)
  (keep:∀b o,b∉C->H b=some o->H' b=some o) (ap:∀k l a,a∈nf k->a∈nf l->k=l) (new:∀k j,js[k]? = some j->∃d v,es[k]? = some d/\σ[j]? = some (some v)/\Rep K H' d v (nf k)/\(nf k).Nodup/\∀a∈nf k,a∈C\/H a=none):∃z',Ok K H0 S z' aq (lT ρ js es) σ H':=by
 classical
 let N:Addr->Prop:=λa=>∃k,k<js.length/\a∈nf k
 let z':Addr->Option Nat:=λa=>if h:N a then js[Classical.choose h]? else if ∃j∈js,z a=some j then none else z a
 have z1:∀{a k j},js[k]? = some j->a∈nf k->z' a=some j:=λ{a k j} e m=>by
  have h:N a:=⟨k,(abL.mp e).1,m⟩
  show(if h:N a then js[Classical.choose h]? else _)=_;rw[dif_pos h,ap _ k a (Classical.choose_spec h).2 m,e]
 have z2:∀{a j},z' a=some j->(∃k,js[k]? = some j/\a∈nf k)\/(z a=some j/\j∉js):=λ{a j} e=>by
  have e:(if h:N a then js[Classical.choose h]? else if ∃j∈js,z a=some j then none else z a)=some j:=e
  by_cases h:N a
  .rw[dif_pos h] at e;exact .inl ⟨_,e,(Classical.choose_spec h).2⟩
  .rw[dif_neg h] at e
   by_cases h2:∃j∈js,z a=some j
   .rw[if_pos h2] at e;cases e
   .rw[if_neg h2] at e;exact .inr ⟨e,λm=>h2 ⟨j,m,e⟩⟩
 have at_:∀{k j},js[k]? = some j->j<ρ.length:=λ{k j} e=>let⟨_,h⟩:=old j (aeL e);(abL.mp h).1
 have nC:∀{a},(∀j∈js,z a≠some j)->a∉C:=λh m=>let⟨j,mj,e⟩:=hz _ m;h j mj e
 have fr:∀{d v fp},Rep K H d v fp->(∀a∈fp,∀j∈js,z a≠some j)->Rep K H' d v fp:=λr h=>r.frame (λa m=>by
  obtain⟨o,w,_⟩:=r.cC a m;rw[keep a o (nC (h a m)) w,w]) im
 have D7:∀{a k},k<js.length->a∈nf k->a∈C\/H a=none:=λ{a k} l m=>let⟨_,_,_,_,_,_,h⟩:=new k _ (abp l);h a m
 refine⟨z',λi d t e=>?_,λp m=>?_,λa j e=>?_,λa o e n=>?_,P7.trans ok.ln⟩
 .by_cases hi:i∈js
  .obtain⟨k,hk⟩:=ag2 hi;obtain⟨d',v,e1,e2,e3,e4,_⟩:=new k i hk;rw[Q5 nd hk e1 (at_ hk)] at e;cases e;exact⟨v,nf k,e2,e3,e4,λa m=>z1 hk m⟩
  .obtain⟨e1,e2⟩:=Gs le.symm hi e;obtain⟨v,fp,hs,r,zz⟩:=ok.sl i d t e1;have hn:∀a∈fp,∀j∈js,z a≠some j:=λa m j mj q=>by
    cases t with
    |sh o=>exact e2 o rfl j mj (zz a m j q)
    |own=>have:=zz.2 a m;rw[q] at this;cases this;exact hi mj
    |lk=>have:=zz.2 a m;rw[q] at this;cases this;exact hi mj
   have hN:∀a∈fp,∀j,z' a=some j->z a=some j:=λa m j q=>by
    rcases z2 q with⟨k,hk,mk⟩|⟨q,_⟩
    .rcases D7 (abL.mp hk).1 mk with c|c
     .exact(nC (hn a m) c).elim
     .obtain⟨o,w,_⟩:=r.cC a m;rw[c] at w;cases w
    .exact q
   have sy:∀a∈fp,z' a=z a:=λa m=>by
    have h1:¬N a:=by
     rintro⟨k,l,mk⟩
     rcases D7 l mk with c|c
     .exact nC (hn a m) c
     .obtain⟨o,w,_⟩:=r.cC a m;rw[c] at w;cases w
    show(if h:N a then js[Classical.choose h]? else if ∃j∈js,z a=some j then none else z a)=_;rw[dif_neg h1,if_neg λ⟨j,mj,q⟩=>hn a m j mj q]
   refine⟨v,fp,hs,fr r hn,?_⟩;cases t with
   |sh o=>exact λa m j q=>zz a m j (hN a m j q)
   |own=>exact⟨zz.1,λa m=>(sy a m).trans (zz.2 a m)⟩
   |lk=>exact⟨zz.1,λa m=>(sy a m).trans (zz.2 a m)⟩
 .obtain⟨r,h⟩:=ok.hl p m;have hn:∀a∈p.fp,∀j∈js,z a≠some j:=λa ma j mj q=>let⟨d,e⟩:=old j mj;(h a ma j q).2 d e
  refine⟨fr r hn,λa ma j q=>?_⟩;rcases z2 q with⟨k,hk,mk⟩|⟨q,nj⟩
  .rcases D7 (abL.mp hk).1 mk with c|c
   .exact(nC (hn a ma) c).elim
   .obtain⟨o,w,_⟩:=r.cC a ma;rw[c] at w;cases w
  .exact⟨(h a ma j q).1,λd e=>(h a ma j q).2 d (Gs le.symm nj e).1⟩
 .rcases z2 e with⟨k,hk,mk⟩|⟨q,nj⟩
  .obtain⟨d',v,e1,e2,e3,e4,e5⟩:=new k j hk;refine⟨let⟨o,w,_⟩:=e3.cC a mk;⟨o,w⟩,?_⟩;rcases e5 a mk with c|c
   .obtain⟨j,_,q⟩:=hz a c;exact(ok.zd a j q).2
   .cases h0:H0 a with
    |none=>exact .inl rfl
    |some o=>
     by_cases hS:a∈S
     .exact .inr hS
     .rw[ok.en a o h0 hS] at c;cases c
  .obtain⟨⟨o,w⟩,y⟩:=ok.zd a j q;exact⟨⟨o,keep a o (nC λi mi q'=>by rw[q] at q';cases q';exact nj mi) w⟩,y⟩
 .refine keep a o (λc=>?_) (ok.en a o e n);obtain⟨j,_,q⟩:=hz a c;rcases(ok.zd a j q).2 with w|w
  .rw[e] at w;cases w
  .exact n w
end
structure Tz(K:PySem.W.Frag)(z:Addr->Option Nat)(H H':Hp)(ρ:aO)(σ:St)(sl:List (Option Nat))(ps:List (D×Tag))(vs:List V)(C:List Addr):Prop where
 ln:ps.length=vs.length
 at_:∀(i:Nat) (p),ps[i]? = some p->∃v f s,vs[i]? = some v/\sl[i]? = some s/\Rep K H' p.1 v f/\(∀j,s=some j->σ[j]? = some (some v)/\(∃d,ρ[j]? = some (some (d,.own)))/\f.Nodup/\∀a∈f,z a=some j/\a∈C)/\(s=none->cI z H p.2 f)
 cc:∀a∈C,∃(i j:Nat),sl[i]? = some (some j)/\z a=some j/\∃o,H' a=some o/\i7 o=true
def FB(X:Cx)(sl:List (Option Nat))(es:List Expr)(g:AF):Prop:=∃t,PA X es t/\∀{H0} {S} {z} {aq} {ρ} {σ} {H} {Q} {ps},
 Ok X.K H0 S z aq ρ σ H->g ρ=some ps->(∀H' vs C,aH H H'->Tz X.K z H H' ρ σ sl ps vs C->Q vs H')->t σ H Q
noncomputable def Ft(i:Nat)(g:AF):AF:=λρ=>match ρ[i]?,g ρ with
 |some (some (d,Tag.own)),some ps=>some ((d,.sh [i])::ps)
 |_,_=>none
theorem Jj:FB X [] [] aJ:=⟨_,eT,@λ_ _ _ _ _ _ H _ _ _ e k=>by cases e;exact k H [] [] (.refl _) ⟨rfl,λi p e=>by simp at e,λa m=>nomatch m⟩⟩
theorem uy(i:Nat)(hr:FB X sl es g)(va:VA X i x:=by walk_at "va")(hs:starEach (.Name x p1::es) X.env=(false,eval (.Name x p1) X.env)::starEach es X.env:=by rfl):FB X (some i::sl) (.Name x p1::es) (Ft i g):=by
 obtain⟨t,p,q⟩:=hr;refine⟨_,cP va.pe p hs,@λH0 S z aq ρ σ H Q ps ok e k=>?_⟩;unfold Ft at e
 split at e
 .rename_i d r h1 h2;cases e;obtain⟨v,f,hv,rv,zz⟩:=ok.sl i _ _ h1;refine⟨v,hv,q ok h2 λH' vs C s a=>k H' (v::vs) (f++C) s ⟨by rw[acf,acf,a.ln],λn p e=>?_,λb m=>?_⟩⟩
  .cases n with
   |zero=>cases e;exact⟨v,f,_,rfl,rfl,rv.same s,(λj e=>by cases e;exact⟨hv,⟨_,h1⟩,zz.1,λa m=>⟨zz.2 a m,abq _ m⟩⟩),λe=>nomatch e⟩
   |succ n=>
    obtain⟨v',f',s',a1,a2,a3,a4,a5⟩:=a.at_ n p e;exact⟨v',f',s',a1,a2,a3,λj e=>let⟨b1,b2,b3,b4⟩:=a4 j e;⟨b1,b2,b3,λa m=>⟨(b4 a m).1,aaV _ (b4 a m).2⟩⟩,a5⟩
  .rcases abE.mp m with m|m
   .exact⟨0,i,rfl,zz.2 b m,(rv.same s).cC b m⟩
   .obtain⟨n,j,c1,c2,c3⟩:=a.cc b m;exact⟨n+1,j,c1,c2,c3⟩
 .cases e
theorem mE(ha:FP X e f)(hr:FB X sl es g)(hs:starEach (e::es) X.env=(false,eval e X.env)::starEach es X.env:=by rfl):FB X (none::sl) (e::es) (ay f g):=by
 exists 69;obtain⟨t',p',q'⟩:=hr;refine⟨_,cP p p' hs,@λH0 S z aq ρ σ H Q ps ok e k=>?_⟩;obtain⟨d,tg,r,e1,e2,rfl⟩:=GH e;refine q ok e1 λH1 v f1 s1 r1 g1=>?_
 refine q' (ok.same s1) e2 λH2 vs C s2 a=>k H2 (v::vs) C (s1.trans s2) ⟨by rw[acf,acf,a.ln],λn p e=>?_,λb m=>?_⟩
 .cases n with
  |zero=>cases e;exact⟨v,f1,_,rfl,rfl,r1.same s2,(λj e=>nomatch e),λ_=>g1⟩
  |succ n=>
   obtain⟨v',f',s',a1,a2,a3,a4,a5⟩:=a.at_ n p e;refine⟨v',f',s',a1,a2,a3,a4,λe=>?_⟩;have:=a5 e;cases ht:p.2 with
   |sh o=>rw[ht] at this;exact this
   |own=>rw[ht] at this;exact⟨this.1,λa m=>s1.free (this.2 a m)⟩
   |lk=>rw[ht] at this;exact⟨this.1,λa m=>s1.free (this.2 a m)⟩
 .obtain⟨n,j,c1,c2,c3⟩:=a.cc b m;exact⟨n+1,j,c1,c2,c3⟩
noncomputable def pG(js:List Nat):List (Option Nat)->List (D×Tag)->Bool
 |none::sl,p::ps=>(match p.2 with|.sh o=>o.all λx=>!(js.contains x)|_=>true)&&pG js sl ps
 |some _::sl,_::ps=>pG js sl ps
 |_,_=>true
theorem Ii:∀{sl} {ps}{i:Nat} {p} {o},pG js sl ps=true->sl[i]? = some none->ps[i]? = some p->p.2=.sh o->∀x∈o,x∉js
 |[],_,_,_,_,_,h,_,_=>by simp at h
 |_::_,[],_,_,_,_,_,h,_=>by simp at h
 |none::sl,p::ps,0,_,o,h,_,e,e2=>by
  cases e;unfold pG at h;rw[e2] at h;intro x m q;have:=ada.mp (ag0.mp h).1 x m;rw[adB.mpr q] at this;cases this
 |none::sl,p::ps,i+1,_,o,h,e0,e,e2=>Ii (i:=i) (by unfold pG at h;exact(ag0.mp h).2) e0 e e2
 |some _::sl,p::ps,0,_,o,h,e0,_,_=>by cases e0
 |some _::sl,p::ps,i+1,_,o,h,e0,e,e2=>Ii (ps:=ps) h e0 e e2
def xJ(js:List Nat)(sl:List (Option Nat))(G:JF)(g:AF):XF:=λρ=>match g ρ with
 |some ps=>if pG js sl ps=true then(G (ps.map (·.1))).map λw=>(w.1,lT ρ js w.2) else none
 |none=>none
def A1(js:List Nat)(sl:List (Option Nat))(G:JF)(g:AF):XR:=λρ=>(xJ js sl G g ρ).map λw=>.ok w.1 w.2
def FK(X:Cx)(e:Expr)(f:XF):Prop:=∃t,PE X e t/\∀{H0} {S} {z} {aq} {ρ} {σ} {H} {Q} {d} {ρ'},
 Ok X.K H0 S z aq ρ σ H->f ρ=some (d,ρ')->(∀z H1 H' v fp,Ok X.K H0 S z aq ρ' σ H1->aH H1 H'->Rep X.K H' d v fp->cI z H1 .own fp->Q v H')->t σ H Q
noncomputable abbrev Rp(J js:List Nat)(sl:List (Option Nat)):Prop:=(∀i,i<sl.length->((sl[i]?).join.isSome=true->i∈J))/\J.length=js.length/\(∀k,k<J.length->sl[(J[k]?).getD 0]? = some (js[k]?))/\js.Nodup/\J.Nodup
theorem Sl(js:List Nat)(sl:List (Option Nat))(GG:bX X.prog X.w X.K X.mg X.base c9 k f fd ps (m_ J X.K G))(hr:bu k X.A)(hm:X.mg x=some (.ref f))(hk:PySem.W.keepIn X.K (.ref f)=true)(hb:Binds X.K fd ps [])(ha:FB X sl (e::es) g)
  (hJ:Rp J js sl:=by decide) (hg:GD X x:=by exact⟨rfl,by decide⟩) (he:starEach (e::es) X.env=(false,eval e X.env)::starEach es X.env:=by rfl) (hpl:(backTo pos (starEach es X.env)).any (·.1)=false:=by rfl) :
  FK X (.Call (.Name x p) (e::es) [] pos) (xJ js sl G g):=by
 classical
 obtain⟨t,pa,sa⟩:=ha;obtain⟨j1,j2,j3,j4,j5⟩:=hJ;refine⟨_,Lm GG hr hg.1 hm hk hb .nil nq pa hg.2 he hpl,@λH0 S z aq ρ σ H Q d ρ' ok e0 kk=>?_⟩;unfold xJ at e0;cases h1:g ρ with
 |none=>rw[h1] at e0;cases e0
 |some qs=>
  rw[h1] at e0;dsimp only at e0
  by_cases oj:pG js sl qs=true
  .rw[if_pos oj] at e0;obtain⟨w,h3,e0⟩:=acq.mp e0;cases e0;refine sa ok h1 λH2 vs C s2 ai=>?_
   rw[acE];have nJ:=ok.same s2;have kJ:∀{k i},J[k]? = some i->∃j,js[k]? = some j/\sl[i]? = some (some j):=λ{k i} e=>by
    have l:=(abL.mp e).1;have:=j3 k l;rw[e] at this;exact⟨js[k]'(j2 ▸ l),abp _,this.trans (by rw[abp (j2 ▸ l)])⟩
   have iJ:∀{i j},sl[i]? = some (some j)->∃k,J[k]? = some i/\js[k]? = some j:=λ{i j} e=>by
    obtain⟨k,hk⟩:=ag2 (j1 i (abL.mp e).1 (by rw[e];rfl));obtain⟨j',a1,a2⟩:=kJ hk;rw[e] at a2;cases a2;exact⟨k,hk,a1⟩
   have inj:∀{i i' j},sl[i]? = some (some j)->sl[i']? = some (some j)->i=i':=λ{i i' j} e e'=>by
    obtain⟨k,a1,a2⟩:=iJ e;obtain⟨k',b1,b2⟩:=iJ e';obtain⟨l1,c1⟩:=abL.mp a2;obtain⟨l2,c2⟩:=abL.mp b2;cases(List.getElem_inj j4).mp (c1.trans c2.symm);rw[a1] at b1;cases b1;rfl
   let M:Addr->Nat->Prop:=λa i=>a∈C/\∃j,sl[i]? = some (some j)/\z a=some j
   let y:Addr->Option Nat:=λa=>if h:∃i,M a i then some (Classical.choose h) else none
   have y1:∀{a i},M a i->y a=some i:=λ{a i} m=>by
    show(if h:∃i,M a i then some (Classical.choose h) else none)=_;rw[dif_pos ⟨i,m⟩];obtain⟨_,j,b1,b2⟩:=Classical.choose_spec (⟨i,m⟩:∃i,M a i);obtain⟨_,j',c1,c2⟩:=m;rw[b2] at c2;cases c2;rw[inj b1 c1]
   refine⟨_,C,y,w.1,w.2,⟨by rw[List.length_map,ai.ln],λi d e=>?_,λa j e=>?_,λa m=>let⟨_,_,_,_,c⟩:=ai.cc a m;c⟩,h3,λH3 u cH nf im kp ap nw rr xM qM le=>?_⟩
   .rw[aco] at e;obtain⟨q,hq,rfl⟩:=acq.mp e;obtain⟨v,fp,s,a1,a2,a3,a4,a5⟩:=ai.at_ i q hq;refine⟨v,fp,a1,a3,λm=>?_,λn a m=>?_⟩
    .obtain⟨k,hk⟩:=ag2 m;obtain⟨j,_,b2⟩:=kJ hk;rw[a2] at b2;cases b2;obtain⟨_,_,c3,c4⟩:=a4 j rfl;exact⟨c3,λa m=>y1 ⟨(c4 a m).2,j,a2,(c4 a m).1⟩⟩
    .show(if h:∃i,M a i then some (Classical.choose h) else none)=_;rw[dif_neg]
     rintro⟨i',mc,j,b1,b2⟩
     cases s with
     |some j'=>obtain⟨k,hk,_⟩:=iJ a2;exact n (aeL hk)
     |none=>
      have tg:=a5 rfl;obtain⟨k,_,hj⟩:=iJ b1;cases ht:q.2 with
      |sh o=>rw[ht] at tg;exact Ii oj a2 hq ht j (tg a m j b2) (aeL hj)
      |own=>rw[ht] at tg;obtain⟨⟨o,hw⟩,_⟩:=ok.zd a j b2;rw[tg.2 a m] at hw;cases hw
      |lk=>rw[ht] at tg;obtain⟨⟨o,hw⟩,_⟩:=ok.zd a j b2;rw[tg.2 a m] at hw;cases hw
   .have e:(if h:∃i,M a i then some (Classical.choose h) else none)=some j:=e
    by_cases h:∃i,M a i
    .obtain⟨_,m,_⟩:=h;exact m
    .rw[dif_neg h] at e;cases e
   .have st:∀{c} {o},H3 c=some o->i7 o=false->(if c∈cH then none else H3 c)=some o:=λ{c o} e mo=>by
     rw[if_neg λm=>?_]
     .exact e
     .obtain⟨o',w,lV⟩:=rr.cC c m;rw[e] at w;cases w;rw[mo] at lV;cases lV
    have i4:a_ H2 (λc=>if c∈cH then none else H3 c):=⟨λc xs e=>st (im.1 c xs e) rfl,λc o u e=>st (im.2.1 c o u e) rfl,λc φ e=>st (im.2.2 c φ e) rfl⟩
    have P:∃z',Ok X.K H0 S z' aq (lT ρ js w.2) σ (λc=>if c∈cH then none else H3 c):=by
     refine nJ.afX (C:=C) j4 (le.trans j2) (λj m=>?_) i4 (λa m=>?_) (λb o n e=>?_) ap (λk j e=>?_)
     .obtain⟨k,hk⟩:=ag2 m;have l:=(abL.mp hk).1;obtain⟨j',c1,c2⟩:=kJ (abp (j2 ▸ l:k<J.length));rw[hk] at c1;cases c1;obtain⟨d,u',_,b2,_⟩:=nw k _ (abp (j2 ▸ l:k<J.length));have lv:=(abL.mp b2).1;obtain⟨v,fp,s,a1,a2,a3,a4,a5⟩:=ai.at_ _ _ (abp (ai.ln ▸ lv));rw[c2] at a2;cases a2;exact(a4 _ rfl).2.1
     .obtain⟨i,j,c1,c2,_⟩:=ai.cc a m;obtain⟨k,_,hj⟩:=iJ c1;exact⟨j,aeL hj,c2⟩
     .show(if b∈cH then none else H3 b)=some o;rw[if_neg λm=>?_]
      .exact kp b o n e
      .rcases(qM b m).1 with q|q
       .exact n q
       .rw[e] at q;cases q
     .have l:=(abL.mp e).1;obtain⟨j',c1,c2⟩:=kJ (abp (j2 ▸ l:k<J.length));rw[e] at c1;cases c1;obtain⟨d,u',b1,b2,b3,b4,b5⟩:=nw k _ (abp (j2 ▸ l:k<J.length));have lv:=(abL.mp b2).1;obtain⟨v,fp,s,a1,a2,a3,a4,a5⟩:=ai.at_ _ _ (abp (ai.ln ▸ lv));rw[c2] at a2;cases a2;rw[b2] at a1;cases a1;refine⟨d,u',b1,(a4 _ rfl).1,b3.frame (λa m=>if_neg λq=>(qM a q).2 k m) ⟨λc xs e=>st e rfl,λc o u e=>st e rfl,λc φ e=>st e rfl⟩,b4,b5⟩
    obtain⟨z',iV⟩:=P;refine kk z' _ H3 u cH iV (λc o e=>?_) rr ⟨xM,λa m=>if_pos m⟩;have e:(if c∈cH then none else H3 c)=some o:=e
    by_cases m:c∈cH
    .rw[if_pos m] at e;cases e
    .rw[if_neg m] at e;exact e
  .rw[if_neg oj] at e0;cases e0
theorem Q8(js:List Nat)(sl:List (Option Nat))(GG:bX X.prog X.w X.K X.mg X.base c9 k f fd ps (m_ J X.K G))(hr:bu k X.A)(hm:X.mg x=some (.ref f))(hk:PySem.W.keepIn X.K (.ref f)=true)(hb:Binds X.K fd ps [])(ha:FB X.eZ sl (e::es) g)
  (hJ:Rp J js sl:=by decide) (hg:GD X x:=by exact⟨rfl,by decide⟩) (he:starEach (e::es) X.env=(false,eval e X.env)::starEach es X.env:=by rfl) (hpl:(backTo pos (starEach es X.env)).any (·.1)=false:=by rfl) :
  FE X (.Call (.Name x p) (e::es) [] pos) (A1 js sl G g):=by
 obtain⟨t,p,q⟩:=Sl (X:=X.eZ) js sl GG hr hm hk hb ha hJ hg he hpl;refine⟨_,OX p,@λH0 S z aq ρ σ H Q E r ok e0 kk=>?_⟩;obtain⟨w,h,rfl⟩:=acq.mp e0;exact q ok h kk
open PySem PySem.Spec PySem.W PyProof.Rows
def qk:D->Option (List Key)
 |.tup ds=>match iI ds with
  |some ks=>if ks.all (λk=>k.isLeft)=true/\ks≠[] then some ks else none
  |none=>none
 |_=>none
theorem Rep.tk{K:Frag}(r:Rep K H d v fp)(ni:qw K=true)(h:qk d=some ks):∃b,v=.ref b/\Tk H b (ks.map L2.kV):=by
 cases d with
 |tup ds=>
  obtain⟨b,xs,rfl,hq,rs⟩:=r.i8;unfold qk at h;dsimp only at h;cases hk:iI ds with
  |none=>rw[hk] at h;cases h
  |some k=>
   rw[hk] at h;dsimp only at h
   by_cases hc:k.all (λk=>k.isLeft)=true/\k≠[]
   .rw[if_pos hc] at h;cases h;obtain rfl:=aB.keys rs hk;exact⟨b,rfl,PR hq ni hc.1 hc.2⟩
   .rw[if_neg hc] at h;cases h
 |_=>cases h
def zx(ρ:aO)(j:Nat):aO:=(ρ.map (rZ j)).set j none
theorem Ok.out{K:Frag}(ok:Ok K H0 S z aq ρ σ H)(hj:ρ[j]? = some (some (d,.own)))(r:Rep K H d v fp)(hz:∀a∈fp,z a=some j):
  ∃z',Ok K H0 S z' aq (zx ρ j) σ (λc=>if c∈fp then none else H c):=by
 classical
 have im:a_ H (λc=>if c∈fp then none else H c):=by
  have st:∀{c} {o},H c=some o->i7 o=false->(if c∈fp then none else H c)=some o:=λ{c o} e mo=>by
   rw[if_neg λm=>?_]
   .exact e
   .obtain⟨o',w,lV⟩:=r.cC c m;rw[e] at w;cases w;rw[mo] at lV;cases lV
  exact⟨λc xs e=>st e rfl,λc o u e=>st e rfl,λc φ e=>st e rfl⟩
 have fr:∀{d v g},Rep K H d v g->(∀a∈g,z a≠some j)->Rep K (λc=>if c∈fp then none else H c) d v g:=λr h=>r.frame (λa m=>if_neg λq=>h a m (hz a q)) im
 have at_:∀{a k},(if z a=some j then none else z a)=some k->z a=some k/\k≠j:=λ{a k} e=>by
  by_cases h:z a=some j
  .rw[if_pos h] at e;cases e
  .rw[if_neg h] at e;exact⟨e,λq=>h (q ▸ e)⟩
 refine⟨λa=>if z a=some j then none else z a,λk d t e=>?_,λp m=>?_,λa k e=>?_,λa o e n=>?_,?_⟩
 .unfold zx at e
  by_cases hk:k=j
  .subst hk;rw[aer (by rw[List.length_map];exact(abL.mp hj).1)] at e;cases e
  .rw[acO (afr hk),aco] at e;obtain⟨s,e0,e⟩:=acq.mp e;obtain⟨rfl,h2⟩:=H_ e;obtain⟨v,g,hs,r1,zz⟩:=ok.sl k d t e0;have own:(∀a∈g,z a=some k)->∀a∈g,z a≠some j:=λh a m q=>by rw[h a m] at q;exact hk (ab1 q)
   cases t with
   |sh o=>exact⟨v,g,hs,fr r1 λa m q=>h2 o rfl (zz a m j q),λa m i e=>zz a m i (at_ e).1⟩
   |own=>exact⟨v,g,hs,fr r1 (own zz.2),zz.1,λa m=>(if_neg (own zz.2 a m)).trans (zz.2 a m)⟩
   |lk=>exact⟨v,g,hs,fr r1 (own zz.2),zz.1,λa m=>(if_neg (own zz.2 a m)).trans (zz.2 a m)⟩
 .obtain⟨r1,h⟩:=ok.hl p m;refine⟨fr r1 λa m q=>(h a m j q).2 d hj,λa m k e=>?_⟩;obtain⟨h1,h2⟩:=h a m k (at_ e).1;refine⟨h1,λd' q=>h2 d' ?_⟩;unfold zx at q;rw[acO (afr (at_ e).2),aco] at q;obtain⟨s,e0,q⟩:=acq.mp q;rw[e0,(H_ q).1]
 .obtain⟨e1,e2⟩:=at_ e;obtain⟨⟨o,w⟩,y⟩:=ok.zd a k e1;exact⟨⟨o,(if_neg λm=>by rw[hz a m] at e1;exact e2 (ab1 e1).symm).trans w⟩,y⟩
 .show(if a∈fp then none else H a)=some o;rw[if_neg λm=>?_]
  .exact ok.en a o e n
  .rcases(ok.zd a j (hz a m)).2 with w|w
   .rw[e] at w;cases w
   .exact n w
 .unfold zx;rw[agq,List.length_map];exact ok.ln
def CP(f0:EF)(j:Nat)(f2:EF):XR:=λρ=>match f0 ρ,ρ[j]?,f2 ρ with
 |some (d0,_),some (some (d,.own)),some (d2,.own)=>if aC d0=true then some (.ok (.tup [d0,d,d2]) (zx ρ j)) else none
 |_,_,_=>none
theorem U8(j:Nat){y:Str}{p1:Pos}{x1}(h0:FP X.eZ a f0)(h2:FP X.eZ b f2)(va:VA X.eZ j y:=by walk_at "va")(hs:starEach [a,.Name y p1,b] X.env=(false,eval a X.env)::starEach [.Name y p1,b] X.env:=by rfl)(cJ:starEach [.Name y p1,b] X.env=(false,eval (.Name y p1) X.env)::starEach [b] X.env:=by rfl)(CK:Y2 X b:=by rfl):
  FE X (.Tuple [a,.Name y p1,b] x1 pos) (CP f0 j f2):=by
 classical
 obtain⟨t0,p0,q0⟩:=h0;obtain⟨t2,p2,q2⟩:=h2;refine⟨_,OX (PL (cP p0 (cP va.pe (cP p2 eT CK) cJ) hs)),@λH0 S z aq ρ σ H Q E r ok e k=>?_⟩;unfold CP at e
 split at e
 .rename_i d0 t d d2 e0 e1 e2
  by_cases hi:aC d0=true
  .rw[if_pos hi] at e;cases e;refine q0 ok e0 λH1 v0 g0 s1 r0 _=>?_
   have hn:=r0.aC hi;subst hn;obtain⟨v,fj,hv,rj,zz⟩:=ok.sl j _ _ e1;refine⟨v,hv,q2 (ok.same s1) e2 λH2 v2 g2 s2 r2 gg=>⟨by show(3:Nat)<=_;exact afk (wg (by decide)),λc hc=>?_⟩⟩;obtain⟨z',aT⟩:=ok.out e1 rj zz.2;have sc:aH H2 (upd H2 c (.tup [v0,v,v2])):=λb o e=>by rw[aP (cV e hc)];exact e
   have sa:=(s1.trans s2).trans sc;refine k z' _ _ _ ([]++(fj++(g2++[]))) aT (λb o e=>?_) (.tup (ck.of cB) (.cons (r0.same (s2.trans sc)) (.cons (rj.same sa) (.cons (r2.same sc) .nil)))) ⟨?_,λb m=>?_⟩
   .by_cases m:b∈fj
    .rw[show(if b∈fj then none else H b)=none from if_pos m] at e;cases e
    .exact sa b o ((if_neg m).symm.trans e)
   .rw[List.nil_append,acE];refine acP.mpr ⟨zz.1,gg.1,λa ma b mb e=>?_⟩;obtain⟨o,w,_⟩:=rj.cC a ma;have:=s1.free (gg.2 b mb);rw[<- e,w] at this;cases this
   .rw[List.nil_append,acE] at m;rcases abE.mp m with m|m
    .exact if_pos m
    .show(if b∈fj then none else H b)=none;rw[s1.free (gg.2 b m)];split<;>rfl
  .rw[if_neg hi] at e;cases e
 .cases e
section
variable{z:Z}
theorem Z.oJ(J:List Nat)(xs:List Str)(S:yt n m s)(h0:MX (jj s) xs J=true)(hJ:J.Nodup)(h:∀(f) (aR) (A) (o) (t) (H) (E),bu k (A.deeper (envOfC (iG c s) (cz s) t.heap.objs.size f aR))->(jj s).Nodup->FJ J false ((fU c9 z.P z.w z.K z.mg z.base (jj s) (iG c s) (cz s) f aR A o t H E).eZ.kO xs) (gO s) b):
  z.D (k+1) c s (m_ J · (mV J n m b)):=by
 obtain⟨S,rfl,rfl,l⟩:=S;exact λ_ _ F=>Xh F S h0 hJ l λaR A o t H E hr=>h _ aR A o t H E hr S.nd
end
section
variable{A:Z->Prop}
noncomputable abbrev wJ{F:JF}(_:∀z,A z->z.D k c s (m_ J · F) cm)(z:Z):Prop:=z.N k s (m_ J · F) cm
noncomputable abbrev fJ{F:JF}(_:∀z,A z->z.D k c s (m_ J · F) cm):JF:=F
end
end L2.Ev
namespace L2
open PySem PySem.Spec PyProof.Rows
theorem KV.at{κ:Type}:∀{ak:List (κ×V)}{vs:List (κ×Value)}{i:Nat}{p:κ×V},KV ak vs->ak[i]? = some p->∃q,vs[i]? = some q/\p.1=q.1
 |_,_,i,p,.nil,e=>by simp at e
 |_,_,0,p,.cons r _,e=>by cases e;exact⟨_,rfl,r.1⟩
 |_,_,i+1,p,.cons _ t,e=>KV.at (i:=i) t e
end L2
namespace L2.Ev
open PySem PySem.Spec PyProof.Rows
noncomputable def IW:D->Option Str
 |.tup (.str s::_)=>some s
 |_=>none
noncomputable def agj:Key->D
 |.inl k=>.int k
 |.inr x=>.str x
def KW(c:Str)(ak:List (Key×D)):List D:=(ak.filter λp=>decide ((IW p.2).getD Str.empty=c)).map λp=>agj p.1
open PySem PySem.Spec PySem.W PyProof.Rows
def xI(f:XF):XF:=λρ=>match f ρ with
 |some (d,ρ')=>if aC d=true then some (d,ρ') else none
 |none=>none
theorem FK.fz(h:FK X e fx):FZ X e (xI fx):=by
 obtain⟨t,p,q⟩:=h;refine⟨t,p,@λH0 S z aq ρ σ H Q d ρ' ok e k=>?_⟩;unfold xI at e;cases h1:fx ρ with
 |none=>rw[h1] at e;cases e
 |some w=>
  rw[h1] at e;exists 70
  by_cases hi:aC w.1=true
  .rw[if_pos hi] at e;cases e;refine q ok h1 λz' H1 H' v fp bG s1 r1 _=>?_
   have hn:=r1.aC hi;subst hn;exact k z' H' v (bG.same s1) r1
  .rw[if_neg hi] at e;cases e
def MH(fa fb fc:EF):EF:=λρ=>match fa ρ,fb ρ,fc ρ with
 |some (.cZ es,.sh o),some (kd,_),some (d3,.own)=>(qk kd).map λk=>((bB es k).getD d3,.sh o)
 |_,_,_=>none
theorem Wt(hu:X.A.units+1<cLine)(ni:qw X.K=true)(ha:FP X a fa)(hb:FP X b fb)(hc:FP X c fc)(m:M2 X a "get" apos b c fP:=by exact⟨rfl,rfl,rfl,rfl⟩):FP X (.Call (.Attribute a "get" apos) [b,c] [] fP) (MH fa fb fc):=by
 exists 51;obtain⟨tc,pc,sc⟩:=hc;exists 21,DW hu pa pb pc m;unfold MH at e
 split at e
 .rename_i es o kd t2 d3 h1 h2 h3;obtain⟨ks,hk,e⟩:=acq.mp e;cases e;refine sa ok h1 λH1 x f1 s1 r1 g1=>?_
  cases r1 with
  | @cZ p ak _ fp h he rs=>
   refine⟨p,rfl,.inr ⟨ak,.inl h⟩,?_⟩;refine sb (ok.same s1) h2 λH2 y f2 s2 r2 _=>?_
   refine sc ((ok.same s1).same s2) h3 λH3 w f3 s3 r3 g3=>?_
   obtain⟨bL,rfl,u0⟩:=r2.tk ni hk;refine⟨_,h_.t (s3 _ _ (s2 _ _ h)) (Tk.aC u0 (.of s3)),?_⟩;have zJ:=(s1.trans s2).trans s3;obtain⟨i1,i2⟩:=qC he ((rs.same s2).same s3);cases hv:bB es ks with
   |some d'=>
    rw[hv] at k;obtain⟨v,f,e1,r,sub⟩:=i1 d' hv;rw[e1];exact k H3 v f zJ r λa m j q=>g1 a (aaa _ (sub a m)) j q
   |none=>
    rw[hv] at k;rw[i2 hv];refine k H3 w f3 zJ r3 λa m j q=>?_
    obtain⟨⟨o',w'⟩,_⟩:=ok.zd a j q;rw[(s1.trans s2).free (g3.2 a m)] at w';cases w'
 .cases e
theorem afm{K:Frag}[DecidableEq κ](rv:Rep K H d v fv)(nv:fv.Nodup):∀{es}{ak:List (κ×V)} {g},es.map (·.1)=ak.map (·.1)->aB K H (es.map (·.2)) (ak.map (·.2)) g->g.Nodup->(es.map (·.1)).Nodup->(∀a∈fv,a∉g)->
  ∃g',aB K H ((putD es k d).map (·.2)) ((putK ak k v).map (·.2)) g'/\g'.Nodup/\∀a∈g',a∈g\/a∈fv:=by
 intro es
 induction es with
 |nil=>
  intro ak g e rs ng _ dj;cases ak with
  |nil=>cases rs;exact⟨fv++[],.cons rv .nil,by rw[acE];exact nv,λa m=>.inr (by rwa [acE] at m)⟩
  |cons _ _=>cases e
 |cons p es ih=>
  intro ak g e rs ng nk dj;cases ak with
  |nil=>cases e
  |cons q ak=>
   obtain⟨e1,e2⟩:=List.cons.inj e;have e1:p.1=q.1:=e1;obtain⟨n1,n2⟩:=abV.mp nk;cases rs with
   | @cons _ _ _ _ f1 f2 r1 r2=>
    obtain⟨a1,a2,a3⟩:=acP.mp ng
    by_cases hk:p.1=k
    .have nk:k∉es.map (·.1):=hk ▸ n1;have o1:putD (p::es) k d=(p.1,d)::es:=by
      unfold putD;rw[afy,aa1 hk,Bool.true_or,if_pos rfl,aas,if_pos hk,yb nk]
     have o2:putK (q::ak) k v=(q.1,v)::ak:=by
      unfold putK;rw[afy,aa1 (e1 ▸ hk),Bool.true_or,if_pos rfl,aas,if_pos (e1 ▸ hk),yb (e2 ▸ nk)]
     rw[o1,o2];exact⟨fv++f2,.cons rv r2,acP.mpr ⟨nv,a2,λa m b m' e=>dj a m (e ▸ aaV _ m')⟩,λa m=>(abE.mp m).elim .inr λm=>.inl (aaV _ m)⟩
    .obtain⟨g',b1,b2,b3⟩:=ih e2 r2 a2 n2 λa m q=>dj a m (aaV _ q)
     have o1:putD (p::es) k d=p::putD es k d:=by
      unfold putD;rw[afy,abR hk,Bool.false_or]
      split
      .rw[aas,if_neg hk]
      .rfl
     have o2:putK (q::ak) k v=q::putK ak k v:=by
      unfold putK;rw[afy,abR (e1 ▸ hk),Bool.false_or]
      split
      .rw[aas,if_neg (e1 ▸ hk)]
      .rfl
     rw[o1,o2];refine⟨f1++g',.cons r1 b1,acP.mpr ⟨a1,b2,λa m b m' e=>?_⟩,λa m=>?_⟩
     .rcases b3 b m' with q|q
      .exact a3 a m b q e
      .exact dj b q (e ▸ abq _ m)
     .rcases abE.mp m with m|m
      .exact .inl (abq _ m)
      .exact(b3 a m).imp (aaV _) id
def BQ(i:Nat)(fk fv:EF):SF:=λρ=>match fv ρ,ρ[i]?,fk ρ with
 |some (d,t),some (some (.cZ es,.own)),some (kd,_)=>match qk kd with
  |some k=>if(jT t||aC d)=true/\(es.map (·.1)).Nodup/\es.length<sizeLine then some (.nx (bT ρ i (.cZ (putD es k d)))) else none
  |none=>none
 |_,_,_=>none
theorem aeq(i:Nat){x:Str}{k v:Expr}{p1 pos':Pos}(hu:X.A.units+1<cLine)(ni:qw X.K=true)(hk:FP X k fk)(hv:FP X v fv)(va:VA X i x:=by walk_at "va")(hs:swapsWith v (some (.Subscript (.Name x p1) k pos')) pos.line X.env=pure false:=by rfl):
  eV X (.Assign [.Subscript (.Name x p1) k pos'] v pos) (BQ i fk fv):=by
 obtain⟨tk,pk,sk⟩:=hk;obtain⟨tv,l5,sv⟩:=hv;exists 25,Bu hu va.pe pk l5 hs;unfold BQ at e
 split at e
 .rename_i d td es kd N1 h1 h2 h3;cases h4:qk kd with
  |none=>rw[h4] at e;cases e
  |some key=>
   rw[h4] at e;exists 70
   split at e
   .rename_i hc;obtain⟨ho,nk,hz⟩:=hc;cases e;refine sv ok h1 λH1 v v8 s1 rv gv=>?_
    have fr:v8.Nodup/\∀a∈v8,H a=none:=by
     cases hi:aC d with
     |true=>rw[rv.aC hi];exact⟨.nil,λa m=>nomatch m⟩
     |false=>
      rw[hi,Bool.or_false] at ho;cases td with
      |sh _=>cases ho
      |own=>exact gv
      |lk=>exact gv
    obtain⟨xv,fp,cN,r,zz⟩:=ok.sl i _ _ h2;refine⟨xv,cN,?_⟩;refine sk (ok.same s1) h3 λH2 y RV s2 rk _=>?_
    obtain⟨bL,rfl,u0⟩:=rk.tk ni h4;cases r with
    | @cZ a ak _ f h gU rs=>
     have Qx:=s2 _ _ (s1 _ _ h);have hl:ak.length=es.length:=by have:=congrArg List.length gU;simpa using this.symm
     refine⟨a,_,rfl,oZ.t Qx u0 (by rw[hl];exact hz),?_⟩;obtain⟨na,nf⟩:=abV.mp zz.1;have rd:∀a∈f,∃o,H a=some o:=λa m=>let⟨o,w,_⟩:=rs.cC a m;⟨o,w⟩
     have dj:∀b∈v8,b∉f:=λb m n=>by obtain⟨o,w⟩:=rd b n;rw[fr.2 b m] at w;cases w
     have av:a∉v8:=λm=>by rw[fr.2 a m] at h;cases h
     have im:a_ H2 (upd H2 a (.dT (putK ak key v))):=a_.upd Qx rfl;obtain⟨g',b1,b2,b3⟩:=afm ((rv.same s2).frame (H':=upd H2 a (.dT (putK ak key v))) (λb m=>aP λq=>av (q ▸ m)) im) fr.1 gU (((rs.same s1).same s2).frame (λb m=>aP λq=>na (q ▸ m)) im) nf nk dj;obtain⟨z',aT⟩:=ok.put h2 cN zz (((a_.of s1).trans (a_.of s2)).trans im) (λb o n e=>by rw[aP λq:b=a=>n (q ▸ aar)];exact s2 _ _ (s1 _ _ e)) (.cZ cB (ye gU) b1) (abV.mpr ⟨λm=>(b3 a m).elim na av,b2⟩) (λb m=>by
      rcases abb.mp m with rfl|m
      .exact .inl aar
      .exact(b3 b m).imp (aaa _) (fr.2 b))
     exact q z' σ _ aT (.refl _ _)
   .cases e
 .cases e
end L2.Ev
namespace L2.Ev
open PySem PySem.Spec PyProof.Rows
noncomputable def Az(o:D->D->Option D)(fx:XF)(fb:EF):XF:=λρ=>match fx ρ with
 |some (d1,ρ')=>match fb ρ' with
  |some (d2,_)=>(o d1 d2).map λd=>(d,ρ')
  |none=>none
 |none=>none
def Fk(o:D->Option D)(fx:XF):XF:=λρ=>match fx ρ with
 |some (d1,ρ')=>match o d1 with
  |some d=>if aC d=true then some (d,ρ') else none
  |none=>none
 |none=>none
theorem DQ(ha:FZ X a fx)(hb:FP X b fb):FZ X (.Compare a [.Is] [b] pos) (Az gR fx fb):=by
 exists 51;exists 27,Df Er pa pb (g_ _);unfold Az at e;cases h1:fx ρ with
 |none=>rw[h1] at e;cases e
 |some w=>
  obtain⟨d1,aS⟩:=w;rw[h1] at e;exists 70;cases h2:fb aS with
  |none=>rw[h2] at e;cases e
  |some w2=>
   rw[h2] at e;obtain⟨d3,h3,e⟩:=acq.mp e;cases e;refine sa ok h1 λz1 H1 x bG r1=>?_
   refine sb bG h2 λH2 y f2 s2 r2 _=>?_
   exact JV H2 x y d1 w2.1 [] f2 _ _ (r1.same s2) r2 h3 λH3 v s3 r3=>k z1 H3 v ((bG.same s2).same s3) r3
noncomputable def zg:D->Option D
 |.bl b=>some (.str (if b then "True" else "False"))
 |.str x=>if(reprText x).length<=sizeLine then some (.str (reprText x)) else none
 |_=>none
def RJ:List V->Hp->VK->Prop:=λxs H Q=>(∃b,xs=[.bl b]/\Q (.str (if b then "True" else "False")) H)\/∃x,xs=[.str x]/\(reprText x).length<=sizeLine/\Q (.str (reprText x)) H
theorem Mz:fX X (.builtin "repr") RJ:=by
 exists 45;rcases h with⟨b,rfl,q⟩|⟨x,rfl,hz,q⟩
 .exists 81;cases ru;exact PySem.P.repr_of_bool ⟨.str _,H,I.tok _,⟨_,rfl⟩,q⟩
 .exists 81;obtain⟨t,rfl⟩:=ru;exact PySem.P.repr_of_str ⟨.str _,H,I.tok _,⟨_,rfl⟩,q⟩ hz
theorem Ru{K:PySem.W.Frag}:oz K RJ zg:=by
 exists 46;cases d1 with
 |bl b=>cases e;cases r;exact .inl ⟨b,rfl,k H _ [] (aH.refl H) (.str _) acj λa m=>nomatch m⟩
 |str y=>
  have e:(if(reprText y).length<=sizeLine then some (D.str (reprText y)) else none)=some d:=e
  by_cases hz:(reprText y).length<=sizeLine
  .rw[if_pos hz] at e;cases e;cases r;exact .inr ⟨y,rfl,hz,k H _ [] (aH.refl H) (.str _) acj λa m=>nomatch m⟩
  .rw[if_neg hz] at e;cases e
 |_=>cases e
theorem JE(hm:X.mg "repr"=none)(ha:FP X a fa)(hg:Gl X "repr":=by rfl)(hs:Y2 X a:=by rfl):FP X (.Call (.Name "repr" p) [a] [] pos) (e1 zg fa):=
 fp_1 Ru ha λta pa=>lR Mz hg hm boot_repr (cP pa eT hs) (he:=hs)
theorem S7(hm:X.mg "repr"=none)(ha:FZ X a fx)(hg:Gl X "repr":=by rfl)(hs:Y2 X a:=by rfl):FZ X (.Call (.Name "repr" p) [a] [] pos) (Fk zg fx):=by
 obtain⟨ta,pa,sa⟩:=ha;exists 27,lR Mz hg hm boot_repr (cP pa eT hs) (he:=hs);unfold Fk at e;cases h1:fx ρ with
 |none=>rw[h1] at e;cases e
 |some w=>
  rw[h1] at e;exists 70;cases h2:zg w.1 with
  |none=>rw[h2] at e;cases e
  |some d2=>
   rw[h2] at e;exists 70
   by_cases hi:aC d2=true
   .rw[if_pos hi] at e;cases e;refine sa ok h1 λz1 H1 x bG r1=>?_
    refine Ru H1 x w.1 [] _ _ r1 h2 λH2 v fp s2 r2 _ _=>?_
    have hn:=r2.aC hi;subst hn;exact k z1 H2 v (bG.same s2) r2
   .rw[if_neg hi] at e;cases e
theorem Zy(hc:qt X c tc)(ha:FJ J im X s1 f)(hb:FJ J im X s2 g):oU J im X (.If c s1 s2 pos) (vC tc f g):=by
 obtain⟨t,p,q⟩:=hc;obtain⟨t1,p1,q1⟩:=ha;obtain⟨t2,p2,q2⟩:=hb;exists 23,Ah p p1 p2;unfold vC at e;cases h:tc ρ with
 |none=>rw[h] at e;cases e
 |some w=>
  obtain⟨y,aS⟩:=w;rw[h] at e;refine q ok h λz1 H1 bG=>?_
  cases y with
  |true=>rw[if_pos rfl];exact q1 bG e k
  |false=>rw[if_neg abz];exact q2 bG e k
end L2.Ev
namespace K90
open PySem L2 L2.Ev
local macro_rules | `(tactic| walk_at "s")=>`(tactic| exact ⟨⟨rfl,rfl,rfl,by decide +kernel,rfl,by decide +kernel,by decide +kernel⟩,rfl,rfl,by decide⟩)
set_option hygiene false
local macro_rules | `(tactic| exists 1,$a)=>`(tactic| exact Z.oF (by walk_at "s") fun _ _ _ _ _ _ _ _ hr nd=>by exact $a)
local macro_rules | `(tactic| exists 2,$a)=>`(tactic| exact Z.oM (by walk_at "s") rfl fun _ _ _ _ _ _ _ hr nd=>by exact $a)
local macro_rules | `(tactic| exists 5,$a)=>`(tactic| exact Z.oR (by walk_at "s") fun _ _ _ _ _ _ _ hr nd=>by exact $a)
local macro_rules | `(tactic| exists 6,$j,$x,$a)=>`(tactic| exact Z.oJ $j $x (by walk_at "s") rfl (by decide) fun _ _ _ _ _ _ _ hr nd=>by exact $a)
set_option hygiene true
theorem fQ{z:Z}(E:En L z):ClsAt z.K "Changes" (cA z.K "Changes"):=E.c _ rfl
theorem aG{z:Z}(E:En L z):ClsAt z.K "Gate" (cA z.K "Gate"):=E.c _ rfl
theorem jq{z:Z}(E:En L z):ClsAt z.K "Tally" (cA z.K "Tally"):=E.c _ rfl
def Gj:=λ(z:Z) (E:En L z)=>(by exists 1,(aL (bI 4 aD nd) (aL (cg (xW (dW (E.b rfl) (ah 0)) aD) (aI (bI 4 (fB (ah 0) (zq (ah 1) (dW (E.b rfl) (ah 0)))) nd)) cj) (aI (aW (zq (zq (f9 (uz (f9 (ah 4) (uz (ah 1) (ah 1))) aD) aD) (ah 2)) (ah 3)))))):z.D 1 Str.empty (top 48) (bz · (bJ 4 5 _)))
abbrev rH:=fF Gj
def q_:=wF Gj
def Hy:=λ(z:Z) (E:En L z/\q_ z)=>(by obtain⟨E,p⟩:=E;exists 1,(aL (bI 2 (f9 aD (bC p.G hr.m p.m p.kp p.b (ao (ah 0) (ao aD (ao aD (ao (ah 1) aF)))))) nd) (aL (bI 3 (f9 aD (bC p.G hr.m p.m p.kp p.b (ao (ah 0) (ao aD (ao aD (ao aD aF)))))) nd) (aL (cg (fZ (bC p.G hr.m p.m p.kp p.b (ao (ah 0) (ao aD (ao aD (ao aD aF))))) aD) (aI (bI 3 aD nd)) cj) (aL (bI 4 (f9 aD (bC p.G hr.m p.m p.kp p.b (ao (ah 0) (ao aD (ao aD (ao aD aF)))))) nd) (aI (aW (jO (ao (ah 2) (ao (ah 3) (ao (ah 4) (ao (f9 (ah 4) (bC p.G hr.m p.m p.kp p.b (ao (ah 0) (ao aD (ao aD (ao aD aF)))))) aF))))))))))):z.D 2 Str.empty (top 49) (bz · (bJ 2 5 _)))
abbrev afZ:=fF Hy
def X_:=wF Hy
def Ec:=λ(z:Z) (E:En L z)=>(by exists 1,(aI (aW (pA (HF Wm (E.b rfl) (E.b rfl) (ah 0)) (pA (UR (HF ad2 (E.b rfl) (E.b rfl) (ah 0))) (qy (VT (ah 1) (ah 0) (ah 2))))))):z.D 1 Str.empty (top 11) (bz · (bJ 3 3 _)))
abbrev mJ:=fF Ec
def xx:=wF Ec
def Io:=λ(z:Z) (E:En L z/\xx z)=>(by obtain⟨E,p⟩:=E;exists 1,(aI (aW (pA (bC p.G hr.m p.m p.kp p.b (ao (ah 1) (ao aD (ao (pF (E.i rfl)) aF)))) (qy (bC p.G hr.m p.m p.kp p.b (ao (ah 0) (ao aD (ao (ah 1) aF)))))))):z.D 2 Str.empty (top 41) (bz · (bJ 2 2 _)))
abbrev US:=fF Io
def Rq:=wF Io
def QA:=λ(z:Z) (E:En L z)=>(by exists 2,(cL (bA (fH 0 (fQ E) (E.n rfl) (fS aF)))):z.D 1 "Changes" (inClass (top 25) 0) (dJ · (runM 1 1 _)))
def acF:=wI QA
def Jg:=λ(z:Z) (E:En L z/\Rq z/\xx z/\acF z)=>(by obtain⟨E,p,q,u⟩:=E;exists 2,(bg (gA (i9 (FW.ft (qR (fM (bC q.G hr.m q.m q.kp q.b (ao (ah 1) (ao aD (ao (pF (E.i rfl)) aF))))) (qR (fM (bC q.G hr.m q.m q.kp q.b (ao (ah 2) (ao aD (ao (pF (E.i rfl)) aF))))) (tW (fM (bC p.G hr.m p.m p.kp p.b (ao (ah 3) (ao (ah 4) aF))))))))) (cL oq) ir) (bg (bA (fH 0 (aG E) (E.n rfl) (jO (ao (ah 1) (ao (ah 2) (ao (ah 3) (ao (ah 4) aF))))))) (bg (bA (fH 0 (aG E) (E.n rfl) (Vl (fQ E).ns u.M u.G hr.m (E.m rfl) u.b))) (bg (bA (fH 0 (aG E) (E.n rfl) (fS aF))) (bg (bA (fH 0 (aG E) (E.n rfl) (fS aF))) (bg (bA (fH 0 (aG E) (E.n rfl) De)) (bg (bA (fH 0 (aG E) (E.n rfl) QS)) (bg (bA (fH 0 (aG E) (E.n rfl) (fS aF))) (bg (bA (fH 0 (aG E) (E.n rfl) gm)) (bg (bA (fH 0 (aG E) (E.n rfl) (fS aF))) (bg (bA (fH 0 (aG E) (E.n rfl) (fS aF))) (bg (bA (fH 0 (aG E) (E.n rfl) aD)) (cL (bA (fH 0 (aG E) (E.n rfl) aD))))))))))))))):z.D 3 "Gate" (inClass (top 46) 0) (dJ · (runM 5 5 _)))
abbrev Oo:=fO Jg
def ab8:=wI Jg
def Dq:=λ(z:Z) (E:En L z/\q_ z)=>(by obtain⟨E,p⟩:=E;exists 1,(aL (bI 5 (bC p.G hr.m p.m p.kp p.b (ao (ah 0) (ao (ah 1) (ao aD (ao aD aF))))) nd) (aL (cg (FW.ft (qR (fM (ah 2)) (tW (xW (ah 5) aD)))) (aI (aW cE)) cj) (aL (cg (FW.ft (kH (FW.ft (qR (qU (ah 5) aD) (tW (qU (ah 1) aD)))) (kH (FW.ft (qR (qU (ah 5) aD) (tW (fZ (dW (E.b rfl) (ah 3)) aD)))) (mz (FW.ft (qR (fZ (ah 5) aD) (tW (fZ (dW (E.b rfl) (ah 4)) aD)))))))) (aI (aW cE)) cj) (aL (cg (qU (ah 5) aD) (aI (aW cE)) cj) (aL (cg (fZ (ah 5) aD) (aI (aW cE)) cj) (aI (aW cE))))))):z.D 2 Str.empty (top 54) (bz · (bJ 5 6 _)))
abbrev Yk:=fF Dq
def aez:=wF Dq
def DH:=λ(z:Z) (E:En L z)=>(by exists 1,(aI (aW (dW (E.b rfl) (bN (fQ E) (E.n rfl) (ah 0))))):z.D 1 "Changes" (inClass (top 25) 2) (bz · (bJ 1 1 _)))
abbrev E4:=fF DH
def Je:=wG DH
def J7:=λ(z:Z) (E:En L z)=>(by exists 1,(aI (aW (pA (K9 (ah 1) (bN (aG E) (E.n rfl) (ah 0))) (pA (K9 (ah 1) (bN (aG E) (E.n rfl) (ah 0))) (qy (YZ (fY hr) (ah 1) (bN (aG E) (E.n rfl) (ah 0)))))))):z.D 1 "Gate" (inClass (top 46) 19) (bz · (bJ 2 2 _)))
abbrev ZR:=fF J7
def aex:=wG J7
def Iu:=λ(z:Z) (E:En L z/\Je z/\aex z)=>(by obtain⟨E,p,q⟩:=E;exists 1,(aI (aW (kh (M:=["number","self"]) (js:=[none,some 0]) (iE rfl (by kernel_rfl)) rfl (CB (E.b rfl) aD (f9 (dX (fQ E) p.t p.G hr.m p.b (bN (aG E) (E.n rfl) (ah 0))) aD)) (by decide) λs3 H3 fp=>⟨(bU 0 (abd rfl)),(oG (fM (gj (aG E) q.t q.G hr.m q.b (ah 1) (ao (ah 0) aF)))),(ah 0)⟩))):z.D 2 "Gate" (inClass (top 46) 8) (bz · (bJ 1 1 _)))
abbrev xC:=fF Iu
def ua:=wG Iu
def Hs:=λ(z:Z) (E:En L z)=>(by exists 1,(aI (aW (jh (E.b rfl) (bN (aG E) (E.n rfl) (ah 0))))):z.D 1 "Gate" (inClass (top 46) 7) (bz · (bJ 1 1 _)))
abbrev Mn:=fF Hs
def E7:=wG Hs
def EX:=λ(z:Z) (E:En L z)=>(by exists 1,(aI (aW (jh (E.b rfl) (bN (aG E) (E.n rfl) (ah 0))))):z.D 1 "Gate" (inClass (top 46) 10) (bz · (bJ 1 1 _)))
abbrev V1:=fF EX
def HV:=wG EX
def DY:=λ(z:Z) (E:En L z/\q_ z)=>(by obtain⟨E,p⟩:=E;exists 1,(aL (bI 3 (ah 2) nd) (aL (jA rfl (e_ (ah 1)) (bU 4 nd) (aI (bI 3 (zq (f9 (uz (ah 3) aD) (ah 4)) aD) nd))) (aL (bI 5 (bC p.G hr.m p.m p.kp p.b (ao (ah 0) (ao (zq (ah 3) aD) (ao aD (ao aD aF))))) nd) (aL (cg (qU (ah 5) (f9 aD (bC p.G hr.m p.m p.kp p.b (ao (ah 0) (ao aD (ao aD (ao aD aF))))))) (aI (aW cE)) cj) (aL (cg (fZ (ah 5) aD) (aI (aW cE)) cj) (aI (aW cE))))))):z.D 2 Str.empty (top 52) (bz · (bJ 3 6 _)))
abbrev afD:=fF DY
def T3:=wF DY
def Fv:=λ(z:Z) (E:En L z)=>(by exists 1,(aL (jA rfl (e_ (fS (ao cE (ao cE aF)))) (bU 2 nd) (aI (cg (fZ (Em (ah 0) (ah 2)) (fB (ah 1) aD)) (aI (qY 2)) cj))) (aL (cg (fZ (dW (E.b rfl) (ah 0)) (fB (ah 1) aD)) (aI (aW cE)) cj) (aI (aW cE)))):z.D 1 Str.empty (top 53) (bz · (bJ 2 3 _)))
abbrev UI:=fF Fv
def aaA:=wF Fv
def GY:=λ(z:Z) (E:En L z)=>(by exists 1,(aL (cg (Be (Em (bN (jq E) (E.n rfl) (ah 0)) cE) (bN (jq E) (E.n rfl) (ah 0))) (aI (aW cE)) cj) (aL (cg (Be (Em (bN (jq E) (E.n rfl) (ah 0)) cE) (bN (jq E) (E.n rfl) (ah 0))) (aI (aW cE)) cj) (aL (cg (Be (dW (E.b rfl) (bN (jq E) (E.n rfl) (ah 0))) (bN (jq E) (E.n rfl) (ah 0))) (aI (aW cE)) cj) (aI (aW cE))))):z.D 1 "Tally" (inClass (top 40) 3) (bz · (bJ 1 1 _)))
abbrev OJ:=fF GY
def Sd:=wG GY
def Fd:=λ(z:Z) (E:En L z/\Sd z)=>(by obtain⟨E,p⟩:=E;exists 2,(bg (gA (afC (ah 1) (QI (E.t rfl))) (cL oq) ir) (bg (gA (mR (dX (jq E) p.t p.G hr.m p.b (ah 0)) cE) (cL oq) ir) (bg (bA (Af 0 (jq E) (E.n rfl) (ah 1))) (cL (mH (dX (jq E) p.t p.G hr.m p.b (ah 0))))))):z.D 2 "Tally" (inClass (top 40) 1) (dJ · (runM 2 2 _)))
abbrev Pd:=fO Fd
def ago:=wO Fd
def GO:=λ(z:Z) (E:En L z/\Rq z)=>(by obtain⟨E,p⟩:=E;exists 2,(bg (gA (i9 (fM (bC p.G hr.m p.m p.kp p.b (ao (ah 1) (ao (ah 2) aF))))) (cL oq) ir) (bg (bA (fH 0 (jq E) (E.n rfl) (ah 1))) (bg (bA (fH 0 (jq E) (E.n rfl) (ah 2))) (cL (bA (fH 0 (jq E) (E.n rfl) (fS aF))))))):z.D 3 "Tally" (inClass (top 40) 0) (dJ · (runM 3 3 _)))
abbrev Ay:=fO GO
def U9:=wI GO
def E3:=λ(z:Z) (E:En L z)=>(by exists 2,(bg (bA (fH 0 (aG E) (E.n rfl) (afR (bN (aG E) (E.n rfl) (ah 0)) (uB (dW (E.b rfl) (ah 1)) (dW (E.b rfl) (bN (aG E) (E.n rfl) (ah 0))))))) (bg (bA (fH 0 (aG E) (E.n rfl) (jh (E.b rfl) (ah 1)))) (cL (bA (Af 0 (aG E) (E.n rfl) (ah 1)))))):z.D 1 "Gate" (inClass (top 46) 22) (dJ · (runM 2 2 _)))
abbrev qZ:=fO E3
def XW:=wO E3
def E5:=λ(z:Z) (E:En L z/\xx z/\Je z)=>(by obtain⟨E,p,q⟩:=E;exists 1,(aI (aW (bC p.G hr.m p.m p.kp p.b (ao (ah 1) (ao aD (ao (dX (fQ E) q.t q.G hr.m q.b (ah 0)) aF)))))):z.D 2 "Changes" (inClass (top 25) 9) (bz · (bJ 2 2 _)))
abbrev Hi:=fF E5
def HJ:=wG E5
def EI:=λ(z:Z) (E:En L z/\HJ z)=>(by obtain⟨E,p⟩:=E;exists 1,(aL (cg (i9 (fM (gj (fQ E) p.t p.G hr.m p.b (ah 0) (ao (ah 1) aF)))) (aI mQ) cj) (aI (aW (fB (bN (fQ E) (E.n rfl) (ah 0)) (uB (ah 1) aD))))):z.D 3 "Changes" (inClass (top 25) 10) (bz · (bJ 2 2 _)))
abbrev VY:=fF EI
def Ie:=wG EI
def Il:=λ(z:Z) (E:En L z/\Ie z)=>(by obtain⟨E,p⟩:=E;exists 1,(aI (aW (jh (E.b rfl) (fB (gj (fQ E) p.t p.G hr.m p.b (ah 0) (ao (ah 1) aF)) aD)))):z.D 4 "Changes" (inClass (top 25) 4) (bz · (bJ 2 2 _)))
abbrev Hz:=fF Il
def Ot:=wG Il
def Jy:=λ(z:Z) (E:En L z/\ua z/\Ot z)=>(by obtain⟨E,p,q⟩:=E;exists 2,(cL (bA (jA rfl (e_ (dX (aG E) p.t p.G hr.m p.b (ah 0))) (bU 1 nd) (aL (ur 2 (hN:=nd) (M:=["lean","self"]) (js:=[none,some 0]) (iE rfl (by kernel_rfl)) rfl (e_ (gj (fQ E) q.t q.G hr.m q.b (bN (aG E) (E.n rfl) (ah 0)) (ao (ah 1) aF))) (by decide) λs3 H3 fp=>⟨(bU 0 (abd rfl)),(oG (Rv (fY hr) (ah 0) (bN (aG E) (E.n rfl) (ah 1)))),(ah 0)⟩) (aI (cg (Sk (ah 2)) (aI (Cu 0 (fY hr) (aG E) (E.n rfl) (ah 1) (jO (ao cE (ao (fB (ah 2) aD) aF))))) cj)))))):z.D 5 "Gate" (inClass (top 46) 24) (dJ · (runM 1 3 _)))
abbrev Cs:=fO Jy
def aeZ:=wO Jy
def CW:=λ(z:Z) (E:En L z/\Sd z)=>(by obtain⟨E,p⟩:=E;exists 1,(aI (aW (Me (abF (fY hr) (ah 1) (bN (aG E) (E.n rfl) (ah 0))) (dX (jq E) p.t p.G hr.m p.b (Mr (fY hr) (bN (aG E) (E.n rfl) (ah 0)) (ah 1) (by exact λ_ _=>rfl))) cE))):z.D 2 "Gate" (inClass (top 46) 21) (bz · (bJ 2 2 _)))
abbrev AX:=fF CW
def GK:=wG CW
def Jp:=λ(z:Z) (E:En L z)=>(by exists 1,(aI (aW (pI (E.b rfl) (nu (bN (aG E) (E.n rfl) (ah 0)) (zT (bN (aG E) (E.n rfl) (ah 0)) (ah 1)))))):z.D 1 "Gate" (inClass (top 46) 20) (bz · (bJ 2 2 _)))
abbrev xu:=fF Jp
def IQ:=wG Jp
def Dr:=λ(z:Z) (E:En L z/\GK z/\IQ z)=>(by obtain⟨E,p,q⟩:=E;exists 1,(aL (jA rfl (CB (E.b rfl) aD (f9 (dW (E.b rfl) (bN (aG E) (E.n rfl) (ah 0))) aD)) (bU 1 nd) (aI (cg (Zk (gj (aG E) p.t p.G hr.m p.b (ah 0) (ao (gj (aG E) q.t q.G hr.m q.b (ah 0) (ao (ah 1) aF)) aF)) (QI (E.t rfl))) (aI (qY 1)) cj))) (aI (aW jJ))):z.D 3 "Gate" (inClass (top 46) 11) (bz · (bJ 1 2 _)))
abbrev Cv:=fF Dr
def G4:=wG Dr
def FD:=λ(z:Z) (E:En L z)=>(by exists 1,(aI (aW (TR rfl (E.b rfl) (kh (M:=["slot","old","new","values"]) (js:=[none,none,none,some 0]) (iE rfl (by kernel_rfl)) rfl (e_ (ah 1)) (by decide) λs3 H3 fp=>⟨(pZ rfl (gI (bU 0 (abd rfl)) (gI (bU 1 (abd rfl)) (gI (bU 2 (abd rfl)) qv)))),(oG (mR (Nc (fY hr) (ah 3) (ah 0) aD) (ah 1))),(ah 0)⟩) jJ))):z.D 1 Str.empty (top 19) (bz · (bJ 2 2 _)))
abbrev Ei:=fF FD
def GZ:=wF FD
def EN:=λ(z:Z) (E:En L z)=>(by exists 1,(aI (aW (kh (M:=["slot","values"]) (js:=[none,some 0]) (iE rfl (by kernel_rfl)) rfl (e_ (Eh rfl (E.b rfl) (ah 0))) (by decide) λs3 H3 fp=>⟨(bU 0 (abd rfl)),(oG (mR (Ej (fY hr) (ah 1) (ah 0)) aD)),(jO (ao (ah 0) (ao (Ej (fY hr) (ah 1) (ah 0)) aF)))⟩))):z.D 1 Str.empty (top 20) (bz · (bJ 1 1 _)))
abbrev ad7:=fF EN
def ad0:=wF EN
def Sj:=λ(z:Z) (E:En L z/\GZ z/\ad0 z)=>(by obtain⟨E,p,q⟩:=E;exists 1,(aL (bI 2 (A7 rfl (E.b rfl) (ah 0)) nd) (aL (jA rfl (e_ (ah 1)) (bU 3 nd) (aL (bI 4 (bC p.G hr.m p.m p.kp p.b (ao (ah 2) (ao (ah 3) aF))) nd) (aL (cg (acC (ah 4) jJ) (aI mQ) cj) (aI (jA rfl (e_ (ah 3)) (pZ rfl (gI (bU 5 nd) (gI (bU 6 nd) (gI (bU 7 nd) qv)))) (aI (Bo 2 (fY hr) (ah 5) (ah 7)))))))) (aI (aW (bC q.G hr.m q.m q.kp q.b (ao (ah 2) aF)))))):z.D 2 Str.empty (top 17) (bz · (bJ 2 8 _)))
def ads:=wF Sj
def CV:=λ(z:Z) (E:En L z/\Ie z)=>(by obtain⟨E,p⟩:=E;exists 1,(aI (aW (jh (E.b rfl) (fB (gj (fQ E) p.t p.G hr.m p.b (ah 0) (ao (ah 1) aF)) aD)))):z.D 4 "Changes" (inClass (top 25) 5) (bz · (bJ 2 2 _)))
abbrev Aj:=fF CV
def AE:=wG CV
def Ex:=λ(z:Z) (E:En L z/\ads z/\AE z)=>(by obtain⟨E,p,q⟩:=E;exists 1,(aI (aW (bC p.G hr.m p.m p.kp p.b (ao (fS aF) (ao (kh (M:=["number","changes"]) (js:=[none,some 0]) (iE rfl (by kernel_rfl)) rfl (e_ (ah 1)) (by decide) λs3 H3 fp=>⟨(bU 0 (abd rfl)),mG,(gj (fQ E) q.t q.G hr.m q.b (ah 1) (ao (ah 0) aF))⟩) aF))))):z.D 5 Str.empty (top 26) (bz · (bJ 2 2 _)))
abbrev aaM:=fF Ex
def Mu:=wF Ex
def IE:=λ(z:Z) (E:En L z/\Mu z)=>(by obtain⟨E,p⟩:=E;exists 1,(aI (aW (A7 rfl (E.b rfl) (bC p.G hr.m p.m p.kp p.b (ao (ah 0) (ao (nu (jh (E.b rfl) (ah 1)) (jh (E.b rfl) (ah 2))) aF)))))):z.D 6 Str.empty (top 32) (bz · (bJ 3 3 _)))
abbrev ZQ:=fF IE
def aft:=wF IE
def Ib:=λ(z:Z) (E:En L z/\Ie z)=>(by obtain⟨E,p⟩:=E;exists 1,(aI (aW (fB (gj (fQ E) p.t p.G hr.m p.b (ah 0) (ao (ah 1) aF)) aD))):z.D 4 "Changes" (inClass (top 25) 3) (bz · (bJ 2 2 _)))
abbrev AQ:=fF Ib
def Xc:=wG Ib
def YA:SF:=(lC (Js 0 (aj 1) (mD (ay (e1 BI (cD "Changes" "rank_of" AQ (aj 1) (ay (aj 0) aJ))) (ay (aj 0) aJ)))))
def EM:=λ(z:Z) (E:En L z/\Xc z)=>(by obtain⟨E,p⟩:=E;intro f fd F;obtain⟨oc,od,kV,doc,pm,an,cd0,ct,qH,rfl,lk,_⟩:=id F.ex;exact Ro (N:=["changes","numbers"]) F ⟨rfl,rfl,rfl,by decide +kernel,rfl,by decide +kernel,by decide +kernel⟩ λaR A outer s H E' hr=>by exact(aI (aW (UE (x:="number") (y:="changes") 0 (E.b rfl) (ah 1) ⟨rfl,rfl,rfl,by decide +kernel,rfl,rfl,by decide +kernel,λ_ _ _ _ _ _ _=>rfl⟩ lk (congrArg (λc=>some (c,_,_)) aR.2.symm) (bu.depth (k:=0) (bu.in1 (bu.in1 hr.m))) (λf c' s H=>(jO (ao (afa (gj (fQ E) p.t p.G (bu.deeper (bu.in1 (bu.in1 hr.m)) _) p.b (ah 1) (ao (ah 0) aF))) (ao (ah 0) aF))))))):z.D 8 Str.empty (top 31) (bz · (bJ 2 2 YA)))
abbrev Pb:=fF EM
def S9:=wF EM
def J4:=λ(z:Z) (E:En L z/\GZ z/\AE z)=>(by obtain⟨E,p,q⟩:=E;exists 1,(aI (aW (aaz (bC p.G hr.m p.m p.kp p.b (ao (ah 1) (ao (gj (fQ E) q.t q.G hr.m q.b (ah 0) (ao (ah 2) aF)) aF))) jJ))):z.D 5 Str.empty (top 33) (bz · (bJ 3 3 _)))
abbrev Fy:=fF J4
def TV:=wF J4
def DL:=λ(z:Z) (E:En L z/\S9 z/\TV z)=>(by obtain⟨E,p,q⟩:=E;exists 1,(aL (jA rfl (e_ (bC p.G hr.m p.m p.kp p.b (ao (ah 0) (ao (ah 2) aF)))) (bU 3 nd) (aI (cg (fM (bC q.G hr.m q.m q.kp q.b (ao (ah 0) (ao (ah 1) (ao (ah 3) aF))))) (aI (qY 3)) cj))) (aI (aW jJ))):z.D 9 Str.empty (top 30) (bz · (bJ 3 4 _)))
abbrev A8:=fF DL
def YL:=wF DL
def GW:=λ(z:Z) (E:En L z/\Ot z)=>(by obtain⟨E,p⟩:=E;exists 1,(aL (bI 4 (A7 rfl (E.b rfl) (kh (M:=["number"]) (js:=[none]) (iE rfl (by kernel_rfl)) rfl (e_ (nu (jh (E.b rfl) (ah 1)) (jh (E.b rfl) (ah 2)))) (by decide) λs3 H3 fp=>⟨(bU 0 (abd rfl)),mG,(jO (ao (ah 0) (ao gm aF)))⟩)) nd) (aI (aW (kh (M:=["number","changes","here"]) (js:=[none,some 0,some 4]) (iE rfl (by kernel_rfl)) rfl (e_ (ah 3)) (by decide) λs3 H3 fp=>⟨(bU 0 (abd rfl)),(oG (fM (Kc rfl (E.b rfl) (kh (M:=["lean","here"]) (js:=[none,some 2]) (ad4 (by decide +kernel)) rfl (e_ (gj (fQ E) p.t p.G hr.m p.b (ah 1) (ao (ah 0) aF))) (by decide) λs3 H3 fp=>⟨(bU 0 (abd rfl)),mG,(TL (fY hr) (ah 0) (ah 1))⟩)))),(ah 0)⟩)))):z.D 5 Str.empty (top 28) (bz · (bJ 4 5 _)))
abbrev AZ:=fF GW
def MO:=wF GW
def Ih:=λ(z:Z) (E:En L z/\aft z/\YL z/\MO z/\AE z)=>(by obtain⟨E,p,q,u,v⟩:=E;exists 1,(aL (bI 5 (jh (E.b rfl) (ah 2)) nd) (aL (bI 6 (jh (E.b rfl) (ah 3)) nd) (aL (bI 7 (bC p.G hr.m p.m p.kp p.b (ao (ah 0) (ao (ah 1) (ao (ah 2) aF)))) nd) (aL (QD 4000 (qU (dW (E.b rfl) (ah 5)) (ah 4)) (aL (bI 8 (bC q.G hr.m q.m q.kp q.b (ao (ah 0) (ao (ah 7) (ao (bC u.G hr.m u.m u.kp u.b (ao (ah 0) (ao (ah 1) (ao (ah 5) (ao (ah 6) aF))))) aF)))) nd) (aL (cg (yT (ah 8) jJ) (aI (qY 5)) cj) (aL (Bd 5 (ah 8)) (aL (ad3 6 (ah 8)) (aI (jA rfl (e_ (gj (fQ E) v.t v.G hr.m v.b (ah 0) (ao (ah 8) aF))) (pZ rfl (gI (bU 9 nd) (gI (bU 10 nd) (gI (bU 11 nd) qv)))) (aI (Bo 7 (fY hr) (ah 9) (ah 11)))))))))) (aI (qY 5)))))):z.D 10 Str.empty (top 29) (bz · (bJ 5 12 _)))
abbrev EY:=fF Ih
def aaE:=wF Ih
def Dj:=λ(z:Z) (E:En L z/\G4 z/\IQ z/\GK z)=>(by obtain⟨E,p,q,u⟩:=E;exists 2,(bg (gA (Rk hr.units (dX (aG E) p.t p.G hr.m p.b (ah 0)) aD) (cL (mH gm)) ir) (bg (bA (bI 1 (gj (aG E) q.t q.G hr.m q.b (ah 0) (ao aD aF)) nd)) (bg (bA (Cu 0 (fY hr) (aG E) (E.n rfl) (fB (bN (aG E) (E.n rfl) (ah 0)) aD) (jO (ao cE (ao (pI (E.b rfl) (bN (aG E) (E.n rfl) (ah 0))) (ao (ah 1) (ao (gj (aG E) u.t u.G hr.m u.b (ah 0) (ao (ah 1) aF)) aF))))))) (bg (bA (fH 0 (aG E) (E.n rfl) (fS aF))) (cL (mH gm)))))):z.D 4 "Gate" (inClass (top 46) 26) (dJ · (runM 1 2 _)))
abbrev MD:=fO Dj
def Y0:=wO Dj
def Jr:=λ(z:Z) (E:En L z/\Mu z)=>(by obtain⟨E,p⟩:=E;exists 1,(aI (aW (bC p.G hr.m p.m p.kp p.b (ao (bN (aG E) (E.n rfl) (ah 0)) (ao (bN (aG E) (E.n rfl) (ah 0)) aF))))):z.D 6 "Gate" (inClass (top 46) 13) (bz · (bJ 1 1 _)))
abbrev afU:=fF Jr
def agg:=wG Jr
def Ht:=λ(z:Z) (E:En L z/\GZ z)=>(by obtain⟨E,p⟩:=E;exists 1,(aI (aW (bC p.G hr.m p.m p.kp p.b (ao (A7 rfl (E.b rfl) (ah 0)) (ao (ah 1) aF))))):z.D 2 Str.empty (top 16) (bz · (bJ 2 2 _)))
abbrev ND:=fF Ht
def adF:=wF Ht
def D_:=λ(z:Z) (E:En L z/\MO z/\ua z/\agg z/\adF z/\AE z)=>(by obtain⟨E,p,q,u,v,y⟩:=E;exists 2,(bg (gA (Sk (bN (aG E) (E.n rfl) (ah 0))) (cL (mH gm)) ir) (bg (bA (bI 1 (bC p.G hr.m p.m p.kp p.b (ao (bN (aG E) (E.n rfl) (ah 0)) (ao (bN (aG E) (E.n rfl) (ah 0)) (ao (fS aF) (ao (dX (aG E) q.t q.G hr.m q.b (ah 0)) aF))))) nd)) (bg (bA (bI 2 (dX (aG E) u.t u.G hr.m u.b (ah 0)) nd)) (bg (bA (jA rfl (e_ (ah 1)) (bU 3 nd) (aI (Cu 0 (fY hr) (aG E) (E.n rfl) (ah 3) (jO (ao cE (ao (bC v.G hr.m v.m v.kp v.b (ao (ah 2) (ao (gj (fQ E) y.t y.G hr.m y.b (bN (aG E) (E.n rfl) (ah 0)) (ao (ah 3) aF)) aF))) aF))))))) (cL (mH (ae3 hr.units (ah 1) (fS aF)))))))):z.D 7 "Gate" (inClass (top 46) 27) (dJ · (runM 1 4 _)))
abbrev F9:=fO D_
def Vr:=wO D_
def G3:=λ(z:Z) (E:En L z/\G4 z/\aaE z/\ua z/\Y0 z/\Vr z)=>(by obtain⟨E,p,q,u,v,y⟩:=E;exists 2,(bg (gA (yT (dX (aG E) p.t p.G hr.m p.b (ah 0)) jJ) (cL (bA (fH 0 (aG E) (E.n rfl) (bC q.G hr.m q.m q.kp q.b (ao (bN (aG E) (E.n rfl) (ah 0)) (ao (bN (aG E) (E.n rfl) (ah 0)) (ao (bN (aG E) (E.n rfl) (ah 0)) (ao (dX (aG E) u.t u.G hr.m u.b (ah 0)) (ao (fB (bN (aG E) (E.n rfl) (ah 0)) aD) aF))))))))) ir) (cL (yi (TM (kT 0 (aG E) v.t v.G hr.m v.b) (kT 0 (aG E) y.t y.G hr.m y.b))))):z.D 11 "Gate" (inClass (top 46) 25) (dJ · (runM 1 1 _)))
abbrev B_:=fO G3
def abK:=wO G3
def HU:=λ(z:Z) (E:En L z/\GK z)=>(by obtain⟨E,p⟩:=E;exists 1,(aI (aW (pA (adn hr.units (ah 1) (bN (aG E) (E.n rfl) (ah 0))) (qy (wQ (gj (aG E) p.t p.G hr.m p.b (ah 0) (ao (ah 1) aF)) cE))))):z.D 3 "Gate" (inClass (top 46) 29) (bz · (bJ 2 2 _)))
abbrev afs:=fF HU
def ZE:=wG HU
def G6:SF:=(b7 (dG 1 (e2 dZ (aj 0) (eC (.int 0)))) (b7 (dG 2 (aj 1)) (b7 (jk (pR (aj 0) (e1 (nO (some 1) none) (aj 0))) (gT (ez (gN 3) (ez (gN 4) lS))) (eX (tV (e2 pO (e2 kg (aj 4) (aj 3)) (e2 kg (aj 2) (aj 1)))) (b7 (dG 1 (aj 3)) (dG 2 (aj 4))) gK)) (lC (e2 oDiv (e2 iM (aj 1) (aj 2)) (eC (.int 2)))))))
def HP:=λ(z:Z) (E:En L z)=>(by exists 1,(aL (bI 1 (fB (ah 0) aD) nd) (aL (bI 2 (ah 1) nd) (aL (jA rfl (KC (E.b rfl) (ah 0) (Nt OH M9 (ah 0))) (pZ rfl (gI (bU 3 nd) (gI (bU 4 nd) qv))) (aI (cg (xW (uB (ah 4) (ah 3)) (uB (ah 2) (ah 1))) (aL (bI 1 (ah 3) nd) (aI (bI 2 (ah 4) nd))) cj))) (aI (aW (ZL (f9 (ah 1) (ah 2)) aD)))))):z.D 1 Str.empty (top 36) (bz · (bJ 1 5 G6)))
abbrev y9:=fF HP
def VM:=wF HP
def F7:SF:=(b7 (dG 4 (nM (tV (e2 gR (aj 1) (eC .aA))) (e2 iM (aj 0) (eC (.int 1))) (aj 1))) (b7 (dG 5 (iX [none,some 4] (iC (aj 2)) (gN 0) (tV (e2 oLt (aj 0) (aj 1))) (aj 0))) (b7 (iF (tV (e2 oLt (e1 d7 (aj 5)) (e2 wA (aj 3) (e2 kg (aj 4) (eC (.int 1)))))) (b7 (eX (jy (tV (e2 gR (aj 1) (eC .aA))) (tV (e2 (jP true) (aj 0) (aj 5)))) (l6 5 (aj 0)) (l6 5 (cO y9 (ay (e2 fW (e2 fW (jS (ay (eC (.int 0)) aJ)) (aj 5)) (jS (ay (aj 4) aJ))) aJ)))) (dG 5 (e1 mS (aj 5)))) 4000) (pW 5))))
def JW:=λ(z:Z) (E:En L z/\VM z)=>(by obtain⟨E,p⟩:=E;exists 1,(aL (bI 4 (Me (yT (ah 1) jJ) (f9 (ah 0) aD) (ah 1)) nd) (aL (ur 5 (hN:=nd) (M:=["place","end"]) (js:=[none,some 4]) (iE rfl (by kernel_rfl)) rfl (e_ (ah 2)) (by decide) λs3 H3 fp=>⟨(bU 0 (abd rfl)),(oG (qU (ah 0) (ah 1))),(ah 0)⟩) (aL (QD 4000 (qU (dW (E.b rfl) (ah 5)) (Kr rfl (E.b rfl) (ah 3) (uB (ah 4) aD))) (aL (cg (FW.ft (qR (yT (ah 1) jJ) (tW (UP (ah 0) (ah 5))))) (aI (Bd 5 (ah 0))) (aI (Bd 5 (bC p.G hr.m p.m p.kp p.b (ao (nu (nu (fS (ao aD aF)) (ah 5)) (fS (ao (ah 4) aF))) aF))))) (aI (bI 5 (Eh rfl (E.b rfl) (ah 5)) nd)))) (aI (qY 5))))):z.D 2 Str.empty (top 35) (bz · (bJ 4 6 F7)))
abbrev E8:=fF JW
def aei:=wF JW
def Gq:=λ(z:Z) (E:En L z/\ZE z/\IQ z/\aei z/\G4 z)=>(by obtain⟨E,p,q,u,v⟩:=E;exists 1,(aL (bI 1 (dW (E.b rfl) (bN (aG E) (E.n rfl) (ah 0))) nd) (aL (ur 2 (hN:=nd) (M:=["place","self"]) (js:=[none,some 0]) (iE rfl (by kernel_rfl)) rfl (CB (E.b rfl) aD (f9 (ah 1) aD)) (by decide) λs3 H3 fp=>⟨(bU 0 (abd rfl)),(oG (fM (gj (aG E) p.t p.G hr.m p.b (ah 1) (ao (gj (aG E) q.t q.G hr.m q.b (ah 1) (ao (ah 0) aF)) aF)))),(ah 0)⟩) (aI (aW (kh (M:=["place","self"]) (js:=[none,some 0]) (iE rfl (by kernel_rfl)) rfl (e_ (bC u.G hr.m u.m u.kp u.b (ao (ah 1) (ao (dX (aG E) v.t v.G hr.m v.b (ah 0)) (ao (ah 2) (ao (fB (bN (aG E) (E.n rfl) (ah 0)) aD) aF)))))) (by decide) λs3 H3 fp=>⟨(bU 0 (abd rfl)),mG,(gj (aG E) q.t q.G hr.m q.b (ah 1) (ao (ah 0) aF))⟩))))):z.D 4 "Gate" (inClass (top 46) 28) (bz · (bJ 1 3 _)))
abbrev W_:=fF Gq
def ad1:=wG Gq
def Dt:=λ(z:Z) (E:En L z/\aeZ z/\abK z/\ad1 z)=>(by obtain⟨E,p,q,u⟩:=E;exists 2,(bg (bA (qG (kT 0 (aG E) p.t p.G hr.m p.b))) (bg (bA (Vo 4000 (TY (i9 (fM (bN (aG E) (E.n rfl) (ah 0)))) (abt (kT 0 (aG E) q.t q.G hr.m q.b))) (aI (qG (kT 0 (aG E) p.t p.G hr.m p.b))))) (cL (bA (fH 0 (aG E) (E.n rfl) (dX (aG E) u.t u.G hr.m u.b (ah 0))))))):z.D 12 "Gate" (inClass (top 46) 23) (dJ · (runM 1 1 _)))
abbrev m5:=fO Dt
def yU:=wO Dt
def GU:=λ(z:Z) (E:En L z/\ago z/\U9 z/\XW z/\yU z)=>(by obtain⟨E,p,q,u,v⟩:=E;exists 2,(bg (gA (KE hr.units (ah 1) (bN (aG E) (E.n rfl) (ah 0))) (cL oq) ir) (abj (fY hr) (E.ni rfl) (aG E) (E.n rfl) (jq E) p.t p.G hr.m p.b (MV (jq E).ns q.M q.G hr.m (E.m rfl) q.b (ao (fB (bN (aG E) (E.n rfl) (ah 0)) aD) (ao (fB (bN (aG E) (E.n rfl) (ah 0)) aD) aF))) (bg (bA (JD 0 (aG E) (E.n rfl) aD)) (bg (gA (mR (ah 4) cE) (cL (bA (Af 0 (aG E) (E.n rfl) (jO (ao (ah 1) (ao (ah 4) aF)))))) ir) (bg (gA (fZ (ah 4) cE) (cL (bA (qG (FY.fz (Bg 0 (aG E) u.t u.G hr.m u.b (ao (ah 1) aF)))))) ir) (bg (bA (qG (kT 0 (aG E) v.t v.G hr.m v.b))) (cL (mH (ah 4))))))) nd)):z.D 13 "Gate" (inClass (top 46) 3) (dJ · (runM 3 5 _)))
abbrev R0:=fO GU
def WO:=wO GU
def GI:=λ(z:Z) (E:En L z/\HV z/\q_ z/\T3 z/\aaA z/\WO z)=>(by obtain⟨E,p,q,u,v,y⟩:=E;exists 6,[2,3,4],["_law_gate","_law_record","_law_settled"],(bg (bA (bI 6 (dX (aG E) p.t p.G hr.m p.b (ah 2)) nd)) (bg (bA (bI 7 (fB (ah 6) (bC q.G hr.m q.m q.kp q.b (ao (ah 0) (ao (ah 1) (ao aD (ao (dW (E.b rfl) (ah 6)) aF)))))) nd)) (bg (bA (bI 8 (Wt (fY hr) (E.ni rfl) (ah 3) (ah 7) (fS aF)) nd)) (bg (bA (bI 9 (bC u.G hr.m u.m u.kp u.b (ao (ah 0) (ao (ah 7) (ao (dW (E.b rfl) (ah 8)) aF)))) nd)) (bg (bA (aeq 3 (fY hr) (E.ni rfl) (ah 7) (nu (ah 8) (fS (ao (ah 9) aF))))) (bg (bA (bI 10 (bC v.G hr.m v.m v.kp v.b (ao (Mr (fY hr) (ah 3) (ah 7) (by exact λ_ _=>rfl)) (ao (ah 5) aF))) nd)) (bg (Zy (V_ (S7 (E.b rfl) (FY.fz (Bg 2 (aG E) y.t y.G hr.m y.b (ao (ah 7) (ao (ah 9) aF))))) (JE (E.b rfl) (ah 10))) (cL (mH jJ)) ir) (bg (bA (cg (mR (ah 10) cE) (aI (Bd 4 (jO (ao (ah 7) (ao (ah 10) aF))))) cj)) (cL (mH (jO (ao (ah 7) (ao (ah 10) aF))))))))))))):z.D 14 Str.empty (top 58) (m_ [2,3,4] · (mV [2,3,4] 6 11 _)))
abbrev Vm:=fJ GI
def UN:=wJ GI
def HM:=λ(z:Z) (E:En L z/\q_ z)=>(by obtain⟨E,p⟩:=E;exists 1,(aL (bI 3 De nd) (aL (jA rfl (RA (E.b rfl) (bC p.G hr.m p.m p.kp p.b (ao (ah 0) (ao (ah 1) (ao aD (ao aD aF)))))) (bU 4 nd) (aL (bI 5 (bC p.G hr.m p.m p.kp p.b (ao (ah 0) (ao (f9 (ah 1) (uz aD (ah 4))) (ao aD (ao aD aF))))) nd) (aL (bI 6 (Nc (fY hr) (ah 2) (ah 5) aD) nd) (aL (cg (fZ (bC p.G hr.m p.m p.kp p.b (ao (ah 0) (ao (f9 (ah 1) (ah 4)) (ao aD (ao aD aF))))) aD) (aI (bI 6 (bC p.G hr.m p.m p.kp p.b (ao (ah 0) (ao (f9 (ah 1) (ah 4)) (ao aD (ao aD aF))))) nd)) cj) (aL (bI 7 (bC p.G hr.m p.m p.kp p.b (ao (ah 0) (ao (f9 (ah 1) (uz aD (ah 4))) (ao aD (ao aD aF))))) nd) (aL (cg (fZ (ah 7) (ah 6)) (aI (bI 7 (f9 (ah 6) aD) nd)) cj) (aI (Bo 3 (fY hr) (ah 5) (jO (ao (ah 5) (ao (ah 6) (ao (ah 7) aF)))))))))))) (aI (aW (kh (M:=["_law_slot","_law_news"]) (js:=[none,some 3]) (iE rfl (by kernel_rfl)) rfl (e_ (Eh rfl (E.b rfl) (ah 3))) (by decide) λs3 H3 fp=>⟨(bU 0 (abd rfl)),mG,(Ej (fY hr) (ah 1) (ah 0))⟩))))):z.D 2 Str.empty (top 50) (bz · (bJ 3 8 _)))
abbrev Sa:=fF HM
def aay:=wF HM
def Jm:=λ(z:Z) (E:En L z/\q_ z/\aay z)=>(by obtain⟨E,p,q⟩:=E;exists 6,[2],["_law_values"],(bg (bA (bI 4 (fS aF) nd)) (bg (bA (cg (fZ (bC p.G hr.m p.m p.kp p.b (ao (ah 0) (ao (ah 1) (ao aD (ao aD aF))))) aD) (aI (ur 4 (hN:=nd) (M:=["_law_number","_law_script","_law_k"]) (js:=[none,some 0,some 1]) (iE rfl (by kernel_rfl)) rfl (CB (E.b rfl) aD (f9 (ah 3) aD)) (by decide) λs3 H3 fp=>⟨(bU 0 (abd rfl)),(oG (fZ (bC p.G hr.m p.m p.kp p.b (ao (ah 1) (ao (f9 (ah 2) (uz aD (ah 0))) (ao aD (ao aD aF))))) aD)),(ah 0)⟩)) cj)) (bg (bA (Jo 5 (U8 4 (bC p.G hr.m p.m p.kp p.b (ao (ah 0) (ao (ah 1) (ao aD (ao aD aF))))) (bC q.G hr.m q.m q.kp q.b (ao (ah 0) (ao (ah 1) (ao (ah 2) aF))))) nd)) (bg (bA (jA rfl (e_ (BX (ah 5) aD)) (pZ rfl (gI (bU 6 nd) (gI (bU 7 nd) (gI (bU 8 nd) qv)))) (aI (Bo 2 (fY hr) (ah 6) (ah 8))))) (cL (ZU 5)))))):z.D 3 Str.empty (top 51) (m_ [2] · (mV [2] 4 9 _)))
abbrev MP:=fJ Jm
def aat:=wJ Jm
def HW:=λ(z:Z) (E:En L z)=>(by exists 1,(aI (aW (Kc rfl (E.b rfl) (kh (M:=["low","high"]) (js:=[none,none]) (iE rfl (by kernel_rfl)) rfl (KC (E.b rfl) (ah 0) (Nt OH M9 (ah 0))) (by decide) λs3 H3 fp=>⟨(pZ rfl (gI (bU 0 (abd rfl)) (gI (bU 1 (abd rfl)) qv))),mG,(afz (ah 0) (ah 1))⟩)))):z.D 1 Str.empty (top 12) (bz · (bJ 1 1 _)))
abbrev adA:=fF HW
def NL:=wF HW
def Fp:=λ(z:Z) (E:En L z/\xx z/\NL z)=>(by obtain⟨E,p,q⟩:=E;exists 1,(aL (jA rfl (e_ (ah 0)) (pZ rfl (gI (bU 1 nd) (gI (bU 2 nd) (gI (bU 3 nd) qv)))) (aL (cg (i9 (FW.ft (qR (fM (bC p.G hr.m p.m p.kp p.b (ao (ah 1) (ao aD (ao (pF (E.i rfl)) aF))))) (tW (fM (bC p.G hr.m p.m p.kp p.b (ao (ah 2) (ao aD (ao (pF (E.i rfl)) aF))))))))) (aI (aW gm)) cj) (aI (cg (FW.ft (kH (i9 (fM (bC p.G hr.m p.m p.kp p.b (ao (ah 3) (ao aD (ao (pF (E.i rfl)) aF)))))) (mz (fZ (ah 2) (ah 3))))) (aI (aW gm)) cj)))) (aI (aW (bC q.G hr.m q.m q.kp q.b (ao (kh (M:=["edit"]) (js:=[none]) (iE rfl (by kernel_rfl)) rfl (e_ (ah 0)) (by decide) λs3 H3 fp=>⟨(bU 0 (abd rfl)),mG,(fB (ah 0) aD)⟩) aF))))):z.D 2 Str.empty (top 18) (bz · (bJ 1 4 _)))
abbrev ZK:=fF Fp
def Ue:=wF Fp
def HH:=λ(z:Z) (E:En L z/\xx z/\NL z/\HJ z/\Ue z)=>(by obtain⟨E,p,q,u,v⟩:=E;exists 1,(aL (cg (i9 (fM (bC p.G hr.m p.m p.kp p.b (ao (ah 1) (ao aD (ao (pF (E.i rfl)) aF)))))) (aI (aW gm)) cj) (aL (cg (FW.ft (kH (i9 (fM (Kc rfl (E.b rfl) (kh (M:=["lean","self"]) (js:=[none,some 0]) (iE rfl (by kernel_rfl)) rfl (e_ (ah 2)) (by decide) λs3 H3 fp=>⟨(bU 0 (abd rfl)),mG,(gj (fQ E) u.t u.G hr.m u.b (ah 1) (ao (ah 0) aF))⟩)))) (mz (i9 (fM (bC q.G hr.m q.m q.kp q.b (ao (ah 2) aF))))))) (aI (aW gm)) cj) (aI (aW (pA (acd (dW (E.b rfl) (ah 3)) (pF (E.i rfl))) (qy (bC v.G hr.m v.m v.kp v.b (ao (ah 3) aF)))))))):z.D 3 "Changes" (inClass (top 25) 11) (bz · (bJ 4 4 _)))
abbrev agp:=fF HH
def V8:=wG HH
def GX:=λ(z:Z) (E:En L z/\V8 z/\Je z)=>(by obtain⟨E,p,q⟩:=E;exists 2,(bg (gA (i9 (fM (gj (fQ E) p.t p.G hr.m p.b (ah 0) (ao (ah 1) (ao (ah 2) (ao (ah 3) aF)))))) (cL oq) ir) (bg (gA (Be (dX (fQ E) q.t q.G hr.m q.b (ah 0)) (pF (E.i rfl))) (cL oq) ir) (bg (bA (Af 0 (fQ E) (E.n rfl) (jO (ao (ah 1) (ao (pI (E.b rfl) (ah 2)) (ao (pI (E.b rfl) (kh (M:=["edit"]) (js:=[none]) (iE rfl (by kernel_rfl)) rfl (e_ (ah 3)) (by decide) λs3 H3 fp=>⟨(bU 0 (abd rfl)),mG,(pI (E.b rfl) (ah 0))⟩)) aF)))))) (cL (mH (dX (fQ E) q.t q.G hr.m q.b (ah 0))))))):z.D 4 "Changes" (inClass (top 25) 1) (dJ · (runM 4 4 _)))
abbrev Au:=fO GX
def U7:=wO GX
def Jl:=λ(z:Z) (E:En L z/\U7 z/\yU z)=>(by obtain⟨E,p,q⟩:=E;exists 2,(bg (bA (XA 4 (FY.fz (Wl 0 (aG E) (E.n rfl) (fQ E) p.t p.G hr.m p.b (ao (ah 1) (ao (ah 2) (ao (ah 3) aF))))) nd)) (bg (bA (qG (kT 0 (aG E) q.t q.G hr.m q.b))) (cL (mH (ah 4))))):z.D 13 "Gate" (inClass (top 46) 1) (dJ · (runM 4 5 _)))
abbrev Qk:=fO Jl
def abv:=wO Jl
def Dp:=λ(z:Z) (E:En L z/\HJ z/\yU z)=>(by obtain⟨E,p,q⟩:=E;exists 2,(bg (gA (i9 (fM (gj (fQ E) p.t p.G hr.m p.b (bN (aG E) (E.n rfl) (ah 0)) (ao (ah 1) aF)))) (cL oq) ir) (bg (gA (FW.ft (kH (M_ (ah 1) (bN (aG E) (E.n rfl) (ah 0))) (mz (Rv (fY hr) (ah 1) (bN (aG E) (E.n rfl) (ah 0)))))) (cL oq) ir) (bg (gA (M_ (ah 1) (bN (aG E) (E.n rfl) (ah 0))) (cL (bA (fH 0 (aG E) (E.n rfl) (zT (bN (aG E) (E.n rfl) (ah 0)) (aed (bN (aG E) (E.n rfl) (ah 0)) (ah 1)))))) ir) (bg (bA (Cu 0 (fY hr) (aG E) (E.n rfl) (ah 1) (jO (ao cE aF)))) (bg (bA (JD 0 (aG E) (E.n rfl) aD)) (cL (bA (qG (kT 0 (aG E) q.t q.G hr.m q.b))))))))):z.D 13 "Gate" (inClass (top 46) 2) (dJ · (runM 2 2 _)))
abbrev NI:=fO Dp
def afW:=wO Dp
def Dh:=λ(z:Z) (E:En L z/\yU z)=>(by obtain⟨E,p⟩:=E;exists 2,(bg (bA (fH 0 (aG E) (E.n rfl) (fS aF))) (bg (bA (fH 0 (aG E) (E.n rfl) gm)) (bg (bA (JD 0 (aG E) (E.n rfl) aD)) (cL (bA (qG (kT 0 (aG E) p.t p.G hr.m p.b))))))):z.D 13 "Gate" (inClass (top 46) 4) (dJ · (runM 1 1 _)))
abbrev Mg:=fO Dh
def Ye:=wO Dh
def Ep:=λ(z:Z) (E:En L z/\yU z)=>(by obtain⟨E,p⟩:=E;exists 2,(bg (bA (fH 0 (aG E) (E.n rfl) gm)) (cL (bA (qG (kT 0 (aG E) p.t p.G hr.m p.b))))):z.D 13 "Gate" (inClass (top 46) 5) (dJ · (runM 1 1 _)))
abbrev MJ:=fO Ep
def XE:=wO Ep
def EE:=λ(z:Z) (E:En L z/\aat z/\abv z/\ua z/\E7 z/\afW z/\q_ z/\Ye z/\XE z)=>(by obtain⟨E,p,q,u,v,y,g,h,j⟩:=E;exists 6,[3,4],["_law_gate","_law_values"],(bg (gA (fZ (ah 2) cE) (bg (bA (Jo 6 (Q8 [4] [none,none,some 4,none] p.G hr.m p.m p.kp p.b (mE (ah 0) (mE (ah 1) (uy 4 (mE (ah 5) Jj))))) nd)) (cL (yi (VQ (FY.fz (Bg 3 (aG E) q.t q.G hr.m q.b (ao (BX (ah 6) aD) (ao (BX (ah 6) aD) (ao (BX (ah 6) aD) aF))))) (f9 (ah 5) aD))))) ir) (bg (gA (fZ (ah 2) cE) (bg (bA (bI 7 (nu (dX (aG E) u.t u.G hr.m u.b (ah 3)) (dX (aG E) v.t v.G hr.m v.b (ah 3))) nd)) (cL (yi (DQ (FY.fz (Bg 3 (aG E) y.t y.G hr.m y.b (ao (fB (ah 7) (bC g.G hr.m g.m g.kp g.b (ao (ah 0) (ao (ah 1) (ao aD (ao (dW (E.b rfl) (ah 7)) aF)))))) aF))) jJ)))) ir) (bg (gA (fZ (ah 2) cE) (cL (yi (DQ (kT 3 (aG E) h.t h.G hr.m h.b) jJ))) ir) (cL (yi (DQ (kT 3 (aG E) j.t j.G hr.m j.b) jJ)))))):z.D 14 Str.empty (top 59) (m_ [3,4] · (mV [3,4] 6 8 _)))
abbrev ab4:=fJ EE
def aaS:=wJ EE
def IJ:=λ(z:Z) (E:En L z)=>(by exists 5,(aL (cg (KE hr.units (ah 1) (bN (aG E) (E.n rfl) (ah 0))) (aI (YM rfl (E.x rfl) (E.g rfl) (E.e rfl) (ao cE aF))) cj) (aL mQ (aL mQ (aL mQ (aL mQ (aL mQ (aL mQ (aL mQ (aI mQ))))))))):z.DR 1 "Gate" (inClass (top 46) 3) (sP · (qW 3 5 _)))
abbrev BS:=fR IJ
def UA:=wR IJ
def HD:=λ(z:Z) (E:En L z/\UA z)=>(by obtain⟨E,p⟩:=E;exists 1,(aL (bI 2 gm nd) (aL (Xw 3 (λaf R=>(aI (T8 (WZ (aG E) p.t p.G hr.m p.b (ah 0) (ao (ah 1) (ao cE aF)))))) (λa=>(aI (bI 2 (YY (E.kt (c:="NoLook") rfl) (E.b rfl) (E.e rfl) (ah 3)) nd))) (E.ct rfl) (E.e rfl) nd) (aI (qY 2)))):z.D 2 Str.empty (top 55) (bz · (bJ 2 4 _)))
abbrev acN:=fF HD
def adL:=wF HD
def Ea:=λ(z:Z) (E:En L z)=>(by exists 1,(aI (aW (bN (aG E) (E.n rfl) (ah 0)))):z.D 1 "Gate" (inClass (top 46) 12) (bz · (bJ 1 1 _)))
abbrev Yp:=fF Ea
def O7:=wG Ea
def E2:=λ(z:Z) (E:En L z)=>(by exists 1,(aI (aW (jh (E.b rfl) (bN (aG E) (E.n rfl) (ah 0))))):z.D 1 "Gate" (inClass (top 46) 15) (bz · (bJ 1 1 _)))
abbrev aev:=fF E2
def abQ:=wG E2
def J8:=λ(z:Z) (E:En L z)=>(by exists 1,(aI (aW (jh (E.b rfl) (bN (aG E) (E.n rfl) (ah 0))))):z.D 1 "Gate" (inClass (top 46) 6) (bz · (bJ 1 1 _)))
abbrev abu:=fF J8
def T6:=wG J8
def G8:=λ(z:Z) (E:En L z)=>(by exists 1,(aI (aW (jh (E.b rfl) (bN (aG E) (E.n rfl) (ah 0))))):z.D 1 "Gate" (inClass (top 46) 14) (bz · (bJ 1 1 _)))
abbrev Tt:=fF G8
def WM:=wG G8
def DC:=λ(z:Z) (E:En L z/\E7 z/\HV z/\O7 z/\ua z)=>(by obtain⟨E,p,q,u,v⟩:=E;exists 1,(aL (bI 4 (dX (aG E) p.t p.G hr.m p.b (ah 0)) nd) (aL (bI 5 (dX (aG E) q.t q.G hr.m q.b (ah 0)) nd) (aL (cg (FW.ft (kH (i9 (fM (HF UK (E.b rfl) (E.b rfl) (ah 5)))) (mz (xW (dW (E.b rfl) (ah 5)) (Z1 rfl (E.b rfl) (fB (ah 3) aD) aD))))) (aI (aW gm)) cj) (aL (bI 6 (dW (E.b rfl) (ah 1)) nd) (aL (ur 7 (hN:=nd) (M:=["_law_one"]) (js:=[none]) (iE rfl (by kernel_rfl)) rfl (e_ (ah 2)) (by decide) λs3 H3 fp=>⟨(bU 0 (abd rfl)),mG,(fB (ah 0) aD)⟩) (aL (jA rfl (e_ (ah 5)) (bU 8 nd) (aL (cg (FW.ft (kH (i9 (fM (aek Vq ZN (E.b rfl) (E.b rfl) (ah 8)))) (kH (T9 (dW (E.b rfl) (ah 8)) (ah 6)) (mz (aaw hr.units (ah 8) (ah 7)))))) (aI (aW gm)) cj) (aL (bI 6 (dW (E.b rfl) (ah 8)) nd) (aI (cg (FW.ft (kH (mR (qI hr (E.b rfl) (ah 8)) (qI hr (E.b rfl) (pI (E.b rfl) (nu (ah 1) (zT (ah 4) (uB (ah 6) (dW (E.b rfl) (ah 1)))))))) (mz (xW (ah 6) (f9 (dW (E.b rfl) (ah 1)) (dW (E.b rfl) (ah 4))))))) (aI (aW gm)) cj))))) (aL (cg (fM (dX (aG E) u.t u.G hr.m u.b (ah 0))) (aI (aW (pA (HQ hr.units (ah 4) (fS aF)) (qy (HQ hr.units (ah 5) (fS aF)))))) cj) (aI (aW (pA (wQ (wQ (dW (E.b rfl) (ah 4)) aD) (wQ (dW (E.b rfl) (ah 5)) aD)) (qy (XT (aeT (dW (E.b rfl) (ah 4)) aD) (qy (HQ hr.units (dX (aG E) v.t v.G hr.m v.b (ah 0)) (fS aF))))))))))))))):z.D 3 Str.empty (top 56) (bz · (bJ 4 9 _)))
abbrev Q0:=fF DC
def abB:=wF DC
def Jk:=λ(z:Z) (E:En L z/\O7 z/\abQ z/\T6 z/\WM z/\abB z)=>(by obtain⟨E,p,q,u,v,y⟩:=E;exists 1,(aL (cg (FW.ft (kH (mR (qI hr (E.b rfl) (dX (aG E) u.t u.G hr.m u.b (ah 0))) (qI hr (E.b rfl) (ah 1))) (kH (mR (qI hr (E.b rfl) (dX (aG E) q.t q.G hr.m q.b (ah 0))) (qI hr (E.b rfl) (ah 2))) (mz (mR (JE (E.b rfl) (dX (aG E) p.t p.G hr.m p.b (ah 0))) (JE (E.b rfl) (ah 4))))))) (aI (aW gm)) cj) (aL (ur 5 (hN:=nd) (M:=["_law_look","_law_word_here"]) (js:=[none,none]) (iE rfl (by kernel_rfl)) rfl (e_ (ah 2)) (by decide) λs3 H3 fp=>⟨(pZ rfl (gI (bU 0 (abd rfl)) (gI (bU 1 (abd rfl)) qv))),(oG (fZ (ah 1) cE)),(ah 0)⟩) (aL (cg (mR (qI hr (E.b rfl) (dX (aG E) v.t v.G hr.m v.b (ah 0))) (qI hr (E.b rfl) (ah 5))) (aI (aW gm)) cj) (aI (aW (bC y.G hr.m y.m y.kp y.b (ao (ah 0) (ao (ah 1) (ao (ah 2) (ao (ah 3) aF)))))))))):z.D 4 Str.empty (top 57) (bz · (bJ 5 6 _)))
abbrev LU:=fF Jk
def UB:=wF Jk
def o_law:=λ(z:Z) (E:En L z/\X_ z/\ab8 z/\aez z/\ua z/\E7 z/\HV z/\UN z/\aaS z/\adL z/\UB z)=>(by obtain⟨E,p,q,u,v,y,g,h,j,l,m⟩:=E;exists 1,(aL (bI 1 (bC p.G hr.m p.m p.kp p.b (ao (ah 0) (ao aD aF))) nd) (aL (bI 2 (MV (aG E).ns q.M q.G hr.m (E.m rfl) q.b (ao (fB (ah 1) aD) (ao (fB (ah 1) aD) (ao (fB (ah 1) aD) (ao (fB (ah 1) aD) aF))))) nd) (aL (bI 3 (fS aF) nd) (aL (bI 4 QS nd) (aL (bI 5 (fS aF) nd) (aL (bI 6 De nd) (aL (bI 7 aD nd) (aL (bI 8 gm nd) (aL (jA rfl (RA (E.b rfl) (Kr rfl (E.b rfl) aD (dW (E.b rfl) (ah 0)))) (bU 9 nd) (aL (bI 10 (bC u.G hr.m u.m u.kp u.b (ao (ah 0) (ao (ah 9) (ao (ah 8) (ao (dX (aG E) g.t g.G hr.m g.b (ah 2)) (ao (nu (dX (aG E) v.t v.G hr.m v.b (ah 2)) (dX (aG E) y.t y.G hr.m y.b (ah 2))) aF)))))) nd) (aL (cg (fZ (ah 10) cE) (aL (Jo 11 (Q8 [2,4,5] [none,none,some 2,some 4,some 5,none] h.G hr.m h.m h.kp h.b (mE (ah 0) (mE (ah 9) (uy 2 (uy 4 (uy 5 (mE (ah 1) Jj))))))) nd) (aL (cg (yT (ah 11) jJ) (aI (aW gm)) cj) (aI (cg (fZ (fB (ah 11) aD) cE) (aL (cg (Rk hr.units (zT (jh (E.b rfl) (fB (ah 11) aD)) (dW (E.b rfl) (ah 3))) (ah 3)) (aI (aW gm)) cj) (aI (bI 3 (jh (E.b rfl) (fB (ah 11) aD)) nd))) cj)))) (aI (Sy (U3 (FK.fz (Sl [2,6] [none,none,none,some 2,some 6,none] j.G hr.m j.m j.kp j.b (mE (ah 0) (mE (ah 9) (mE (ah 10) (uy 2 (uy 6 (mE (ah 7) Jj))))))))) (aI (aW gm)) cj))) (aL (cg (fZ (ah 10) cE) (aI (bI 7 (f9 (ah 7) aD) nd)) cj) (aL (cg (FW.ft (kH (fZ (ah 10) cE) (mz (fZ (ah 10) cE)))) (aI (bI 8 (wQ (ah 10) cE) nd)) cj) (aL (cg (FW.ft (kH (i9 (fM (bC l.G hr.m l.m l.kp l.b (ao (ah 2) (ao (pI (E.b rfl) (ah 3)) aF))))) (mz (i9 (fM (bC l.G hr.m l.m l.kp l.b (ao (ah 2) (ao (pI (E.b rfl) (nu (ah 3) (fS (ao aD aF)))) aF)))))))) (aI (aW gm)) cj) (aI (cg (i9 (fM (bC m.G hr.m m.m m.kp m.b (ao (ah 2) (ao (ah 3) (ao (ah 5) (ao (ah 1) (ao (ah 8) aF)))))))) (aI (aW gm)) cj)))))))) (aI (aW (bC m.G hr.m m.m m.kp m.b (ao (ah 2) (ao (ah 3) (ao (ah 5) (ao (ah 1) (ao (ah 8) aF))))))))))))))))):z.D 15 Str.empty (top 60) (bz · (bJ 1 12 _)))
abbrev zD:=fF o_law
end K90
namespace K90
open PySem L2 L2.Ev
theorem cK(h:f ρ=some (d,.own)):lC f ρ=some (.rt d):=by rw[A5,h];rfl
theorem Bk:mJ [.int v,.int a,.int b]=some (.bl (decide (a<=v)&&decide (v<=b))):=by
 refine cu rfl (cK ?_);show(match some (D.bl (decide (a<=v))) with|some (.bl true)=>some (D.bl (decide (v<=b)),Tag.own)|some (.bl false)=>some (.bl false,.own)|_=>none)=_;cases decide (a<=v)<;>rfl
noncomputable def iL(l:List Int):D:=.lst (l.map D.int)
noncomputable abbrev Ed:=Int×Int×Int
noncomputable def dT(p:Ed):D:=.tup [.int p.1,.int p.2.1,.int p.2.2]
def eL(E:List Ed):D:=.lst (E.map dT)
theorem yf:∀E:List Ed,aN (E.map dT)=true
 |[]=>rfl
 |p::r=>by rw[aas];unfold aN;rw[yf r];rfl
theorem Og:∀bs:List Bool,m7 (bs.map D.bl)=some bs
 |[]=>rfl
 |b::r=>by rw[aas];unfold m7;rw[Og r];rfl
theorem K2{bs:List Bool}:yd (.lst (bs.map D.bl))=some (.bl (bs.all id)):=by
 show(m7 (bs.map D.bl)).map (λbs=>D.bl (bs.all id))=_;rw[Og];rfl
theorem pH{α β:Type}(f:α->β):∀l:List α,l.filterMap (λx=>some (f x))=l.map f
 |[]=>rfl
 |a::l=>by rw[aen,aas];show _::_=_;rw[pH f l]
abbrev g2:GF:=gT (ez (gN 0) (ez (gN 1) lS))
theorem size_le{n:Nat}(h:n<=10000):n<sizeLine:=by unfold sizeLine;lia
theorem Qp{k:Nat}(hk:k<=ds.length):cutD ds (some (k:Int)) none=ds.drop k:=by
 unfold cutD;rw[HT.Du,HT.C4,Nat.min_eq_left hk,List.take_of_length_le (by rw[List.length_drop];exact abT _)]
theorem BU{k:Nat}(hk:k<=ds.length):cutD ds none (some (k:Int))=ds.take k:=by
 unfold cutD;rw[HT.Du,HT.C4,Nat.min_eq_left hk];rfl
theorem aap{ds:List D}:cutD ds (some 1) none=ds.drop 1:=by
 cases ds with
 |nil=>rfl
 |cons a r=>exact Qp (by simp)
noncomputable def qL:List Int->Bool
 |x::y::r=>decide (x<y)&&qL (y::r)
 |_=>true
theorem L6:∀l:List Int,((l.zip (l.drop 1)).map λp=>decide (p.1<p.2)).all id=qL l
 |[]=>rfl
 |[_]=>rfl
 |x::y::r=>by
  have ih:=L6 (y::r);show(decide (x<y)&&(((y::r).zip ((y::r).drop 1)).map λp=>decide (p.1<p.2)).all id)=_;rw[ih];rfl
theorem C5:∀{l},l.Pairwise (· < ·)->qL l=true
 |[],_=>rfl
 |[_],_=>rfl
 |x::y::r,h=>by
  obtain⟨h1,h2⟩:=adK.mp h;show(decide (x<y)&&qL (y::r))=true;rw[C5 h2,aa1 (h1 y aar)];rfl
theorem O1{l:List Int}(hl:l.length<=100):adA [iL l]=some (.bl (qL l)):=by
 have q1:e1 (nO (some 1) none) (aj 0) [some (iL l,.sh [])]=some (iL (l.drop 1),.own):=bf rfl (by
  show(if aN (l.map D.int)=true then some (D.lst (cutD (l.map D.int) (some 1) none)) else none)=_;rw[if_pos (eO l),aap,<- List.map_drop];rfl)
 have hz:pR (aj 0) (e1 (nO (some 1) none) (aj 0)) [some (iL l,.sh [])]=some (((l.zip (l.drop 1)).map λp=>D.tup [.int p.1,.int p.2]),jM [(iL l,.sh []),(iL (l.drop 1),.own)]):=by
  unfold pR;rw[q1];show(if(aN (l.map D.int)&&aN ((l.drop 1).map D.int))=true then some (((l.map D.int).zip ((l.drop 1).map D.int)).map λp=>D.tup [p.1,p.2],jM [(iL l,.sh []),(iL (l.drop 1),.own)]) else none)=_;rw[if_pos (by rw[eO,eO];rfl),List.zip_map,ac4];rfl
 refine cu rfl (cK (bf (jQ (k:=λd=>match d with | .tup [.int a,.int b]=>some (.bl (decide (a < b))) | _=>none) hz (by rw[List.length_map,List.length_zip];exact size_le (by lia)) (λd m=>by
  obtain⟨⟨a,b⟩,mi,rfl⟩:=abX.mp m;exact qQ rfl rfl (aK rfl rfl uI))) ?_))
 rw[aeN,<- L6,<- K2,ac4];exact congrArg (λz=>yd (.lst z)) (pH (λp:Int×Int=>D.bl (decide (p.1<p.2))) _)
theorem AG(hi:it ρ=some (ds,.sh []))(h:dh g (.sh []) f ds ρ=some (.nx ρ')):jk it g f ρ=some (.nx ρ'):=vz hi h
theorem YU(hi:it ρ=some (ds,.sh []))(h:dh g (.sh []) f ds ρ=some (.rt r)):jk it g f ρ=some (.rt r):=Sb hi h
noncomputable def inR(v a b:Int):Bool:=decide (a<=v)&&decide (v<=b)
def qK(p:Ed):Bool:=inR p.1 0 999&&inR p.2.1 0 1000000000&&inR p.2.2 0 1000000000&&!(p.2.1==p.2.2)
def xY(E:List Ed):Bool:=E.all qK&&qL (E.map (·.1))
abbrev gE:GF:=gT (ez (gN 1) (ez (gN 2) (ez (gN 3) lS)))
def bE:SF:=(b7 (eX (lW (jy (tV (cO mJ (ay (aj 1) (ay (eC (.int 0)) (ay (eC (.int 999)) aJ))))) (tV (cO mJ (ay (aj 2) (ay (eC (.int 0)) (ay (eC (.int 1000000000)) aJ))))))) (lC (eC (.bl false))) gK) (eX (jX (lW (tV (cO mJ (ay (aj 3) (ay (eC (.int 0)) (ay (eC (.int 1000000000)) aJ)))))) (tV (e2 oEq (aj 2) (aj 3)))) (lC (eC (.bl false))) gK))
theorem wZ(h:aj i ρ=some (.int v,t)):tV (cO mJ (ay (aj i) (ay (eC (.int a)) (ay (eC (.int b)) aJ)))) ρ=some (inR v a b):=
 bx (cR (ps:=[(.int v,t),(.int a,.own),(.int b,.own)]) (by rw[aX,h];rfl) Bk)
def rE(L:D)(a b c:Int):aO:=[some (L,.sh []),some (.int a,.own),some (.int b,.own),some (.int c,.own)]
theorem Zv{L:D}{a b c:Int}:bE (rE L a b c)=some (if qK (a,b,c)=true then .nx (rE L a b c) else .rt (.bl false)):=by
 have w1:tV (cO mJ (ay (aj 1) (ay (eC (.int 0)) (ay (eC (.int 999)) aJ)))) (rE L a b c)=some (inR a 0 999):=wZ rfl;have w2:tV (cO mJ (ay (aj 2) (ay (eC (.int 0)) (ay (eC (.int 1000000000)) aJ)))) (rE L a b c)=some (inR b 0 1000000000):=wZ rfl;have w3:tV (cO mJ (ay (aj 3) (ay (eC (.int 0)) (ay (eC (.int 1000000000)) aJ)))) (rE L a b c)=some (inR c 0 1000000000):=wZ rfl;have w4:tV (e2 oEq (aj 2) (aj 3)) (rE L a b c)=some (b==c):=rfl;have c1:=vF w1 w2;have c2:=yk (show lW (tV (cO mJ (ay (aj 3) (ay (eC (.int 0)) (ay (eC (.int 1000000000)) aJ))))) (rE L a b c)=some (!inR c 0 1000000000) by rw[Ge,w3];rfl) w4;unfold bE qK;rw[jG,ja,Ge,c1];cases inR a 0 999<;>cases inR b 0 1000000000<;>try rfl
 show Aw _ (gK _)=_;rw[aeQ,nY,ja,c2];cases inR c 0 1000000000<;>cases(b==c)<;>rfl
theorem NU{L:D}:∀{E:List Ed} {s1 s2 s3},∃pU Hg xg,dh gE (.sh []) bE (E.map dT) [some (L,.sh []),s1,s2,s3]=some (if E.all qK=true then .nx [some (L,.sh []),pU,Hg,xg] else .rt (.bl false))
 |[],s1,s2,s3=>⟨s1,s2,s3,rfl⟩
 |(a,b,c)::E,s1,s2,s3=>by
  obtain⟨t1,t2,t3,ih⟩:=NU;refine⟨t1,t2,t3,?_⟩;rw[aas];show(match bE (rE L a b c) with|some (.nx bh)=>dh gE (.sh []) bE (E.map dT) bh|some (.ct bh)=>dh gE (.sh []) bE (E.map dT) bh|some (.bk bh)=>some (.nx bh)|some (.rt r)=>some (.rt r)|some (.er raw cn bh)=>some (.er raw cn bh)|none=>none)=_;rw[Zv,ahd];cases qK (a,b,c) with
  |true=>rw[if_pos rfl,Bool.true_and];exact ih
  |false=>rfl
theorem eY(h:sf ρ=some (.rt d)):b7 sf sg ρ=some (.rt d):=by rw[jG,h];rfl
theorem M8{js:List (Option Nat)}{it:IF}{g:GF}{te:EF}{ρ:aO}{t:Tag}{l:List Int}{p:Int->Bool}(hi:it ρ=some (l.map D.int,t))(hl:l.length<=10000)(h:∀x∈l,iW g um te (ju js ρ) (.int x)=some (some (.bl (p x)))):
  e1 yd (iX js it g um te) ρ=some (.bl (l.all p),.own):=by
 have hc:=jQ (k:=λd=>match d with | .int x=>some (.bl (p x)) | _=>none) hi (by rw[List.length_map];exact size_le hl) (λd m=>by
  exists 78;exact h x mx)
 rw[ya,hc,K6,aeN];have e:l.filterMap ((λd=>match d with|D.int x=>some (D.bl (p x))|_=>none) ∘ D.int)=(l.map p).map D.bl:=by
  rw[ac4];exact pH (λx=>D.bl (p x)) _
 rw[e,K2,ahb];rfl
theorem f_are{E:List Ed}(hl:E.length<=100):ZK [eL E]=some (.bl (xY E)):=by
 obtain⟨t1,t2,t3,vf⟩:=NU;refine cu rfl ?_;unfold xY;cases ha:E.all qK with
 |false=>
  rw[ha] at vf;exact eY (YU rfl vf)
 |true=>
  rw[ha] at vf;refine sq (AG rfl vf) (cK (cR (ps:=[(iL (E.map λp:Ed=>p.1),.own)]) ?_ (O1 (by rw[List.length_map];exact hl))));rw[aX,jQ (k:=λd=>match d with | .tup [.int a,.int _,.int _]=>some (.int a) | _=>none) rfl (by rw[List.length_map];exact size_le (by lia)) (λd m=>by
   obtain⟨⟨a,b,c⟩,mi,rfl⟩:=abX.mp m;exact qQ rfl rfl rfl),aeN]
  unfold iL;rw[ac4,show E.filterMap ((λd=>match d with|D.tup [.int a,.int _,.int _]=>some (D.int a)|_=>none) ∘ dT)=E.map (D.int ∘ (·.1)) from pH (λp:Ed=>D.int p.1) _];rfl
abbrev Ch:=Int×List Int×List Ed
def ent(c:Ch):D:=.tup [.int c.1,.tup (c.2.1.map D.int),.tup (c.2.2.map dT)]
def obj(C:List Ch):D:=.ins "Changes" [("entries",.lst (C.map ent))]
theorem FL(c:Ch):aC (ent c)=true:=by
 unfold ent;show aN [.int c.1,.tup (c.2.1.map D.int),.tup (c.2.2.map dT)]=true;unfold aN;unfold aN;unfold aN;unfold aN;show(aC (.int c.1)&&(aN (c.2.1.map D.int)&&(aN (c.2.2.map dT)&&true)))=true;rw[eO,yf];rfl
theorem Qo:∀C:List Ch,aN (C.map ent)=true
 |[]=>rfl
 |c::r=>by rw[aas];unfold aN;rw[Qo r,FL];rfl
theorem nH{F:List D->Option D}{ps:List (D×Tag)}(h:fo ρ=some (.ins cn es,t))(hm:es.lookup m=none)(hg:g ρ=some ps)(hF:F (.ins cn es::ps.map (·.1))=some d):
  cD cn m F fo g ρ=some (d,.own):=by
 unfold cD;rw[h];dsimp only;rw[if_pos ⟨rfl,hm⟩,hg,acV,hF];rfl
theorem AD(h:(mm==("entries":Str))=false):([("entries",d)]:List (Str×D)).lookup mm=none:=by simp only[List.lookup,h]
theorem KG(C:List Ch):E4 [obj C]=some (.int C.length):=cu rfl (cK (bf rfl (by rw[zM,List.length_map])))
theorem EG(h:aj i ρ=some (obj C,t)):cD "Changes" "many" E4 (aj i) aJ ρ=some (.int C.length,.own):=
 nH h (AD (by decide)) yI (KG C)
theorem mU{F:List D->Option D}(h:aj i ρ=some (obj C,t))(ha:fa ρ=some (x,t2))(hF:F [obj C,x]=some d)(hm:(mm==("entries":Str))=false:=by decide):
  cD "Changes" mm F (aj i) (ay fa aJ) ρ=some (d,.own):=
 nH (ps:=[(x,t2)]) h (AD hm) (by rw[aX,ha,yI,BR]) hF
theorem Iq(C:List Ch)(m:Int):Hi [obj C,.int m]=some (.bl (inR m 1 C.length)):=
 cu rfl (cK (cR (ps:=[(.int m,.sh []),(.int 1,.own),(.int C.length,.own)]) (by rw[aX,aX,aX,EG rfl];rfl) Bk))
def vP(n:Nat)(r:Int)(l:List Int)(E:List Ed):Bool:=inR r 0 9&&(l.all (λx=>inR x 1 n)&&qL l)&&(decide ((E.length:Int)<=20)&&xY E)
theorem tO(h1:fa ρ=some (.bl b,t))(h2:fb ρ=some (.bl c,.own)):xQ fa fb ρ=some (.bl (b&&c),.own):=by
 rw[Xg,h1];cases b
 .rfl
 .exact h2
theorem abA{C:List Ch}{r:Int}{l:List Int}{E:List Ed}(hl:l.length<=100)(hE:E.length<=100):agp [obj C,.int r,iL l,eL E]=some (.bl (vP C.length r l E)):=by
 have q1:=kN (wZ (ρ:=[some (obj C,.sh []),some (.int r,.sh []),some (iL l,.sh []),some (eL E,.sh [])]) (i:=1) (a:=0) (b:=9) rfl);have q2:=yk (kN (bx (M8 (js:=[none,some 0]) (it:=iC (aj 2)) (g:=gN 0) (te:=cD "Changes" "has" Hi (aj 1) (ay (aj 0) aJ)) (ρ:=[some (obj C,.sh []),some (.int r,.sh []),some (iL l,.sh []),some (eL E,.sh [])]) (gW rfl) (by lia) (λx mx=>qQ rfl rfl (mU rfl rfl (Iq C x)))))) (kN (bx (cR (g:=ay (aj 2) aJ) rfl (O1 hl))));refine cu rfl ?_;unfold vP;cases h0:inR r 0 9 with
 |false=>rw[h0] at q1;exact qe q1 (eY rfl)
 |true=>
  rw[h0] at q1;refine dg q1 ?_;cases h1:l.all λx=>inR x 1 C.length with
  |false=>rw[h1] at q2;exact qe q2 (eY rfl)
  |true=>
   cases h2:qL l with
   |false=>rw[h1,h2] at q2;exact qe q2 (eY rfl)
   |true=>
    rw[h1,h2] at q2;exact dg q2 (cK (tO (c:=xY E) (aK (bf rfl (by unfold eL;rw[zM,List.length_map])) rfl Pj) (cR rfl (f_are hE))))
theorem Ak(h1:fv ρ=some (d,t))(h2:ρ[i]? = some (some (.ins cn es,.own)))(hl:es.lookup f=some (.lst ds))(hc:(aC d&&aN ds&&decide (ds.length<sizeLine))=true):
  CH i cn f fv ρ=some (.nx (bT ρ i (.ins cn (dR f (.lst (ds++[d])) es)))):=by
 unfold CH;rw[h1,h2];dsimp only;rw[if_pos rfl,hl];dsimp only;rw[if_pos hc]
theorem iK(h:f ρ=some (.nx ρ')):jn f ρ=some (.nx ρ'):=by unfold jn;rw[h]
theorem kP(hl:ds.length+1=n)(h:b (A2 N d0 ds)=some (.rt (.tup [r,d1]))):runM n N b d0 ds=some (r,d1):=by unfold runM;rw[if_pos hl,h]
theorem Yz{C:List Ch}{r:Int}{l:List Int}{E:List Ed}(hl:l.length<=100)(hE:E.length<=100)(hm:vP C.length r l E=true)(hC:C.length<60):Au (obj C) [.int r,iL l,eL E]=some (.int (C.length+1),obj (C++[(r,l,E)])):=by
 refine kP rfl ?_;refine dg (kN (b:=true) (bx (nH rfl (AD (by decide)) rfl ((abA hl hE).trans (by rw[hm]))))) ?_;refine dg (bx (aK (EG rfl) rfl (by rw[Va,abR (by lia)]))) ?_;refine sq (ρ':=[some (obj (C++[(r,l,E)]),.own),some (.int r,.sh []),some (iL l,.sh []),some (eL E,.sh [])]) ((iK (Ak (d:=ent (r,l,E)) (t:=.sh []) ?_ rfl rfl (by rw[FL,Qo,aa1 (by rw[List.length_map];exact size_le (by lia))];rfl))).trans ?_) ?_
 .rw[rT,aX,aX,aX,bf rfl ug,bf (d:=eL E) (t:=.own) ?_ (if_pos (yf E))]
  .rfl
  .refine(jQ (gW rfl) (by rw[List.length_map];exact size_le (by lia)) (λd m=>by
    obtain⟨⟨a,b,c⟩,mx,rfl⟩:=abX.mp m;exact qQ rfl rfl rfl)).trans ?_
   rw[pH (λd:D=>d),List.map_id'];rfl
 .unfold obj;rw[ade];rfl
 .show uP _ _ _=_;unfold uP;rw[EG rfl,abN];rfl
theorem nV{i:Int}(h1:-1000<=i)(h2:i<=1000):small i=true:=by
 unfold small;rw[aa1 (show -(2 ^ 62)<=i by lia),aa1 (show i<2 ^ 62 by lia)];rfl
noncomputable def b_(a:Int)(n:Nat):List Int:=(List.range n).map λi:Nat=>a+(i:Int)
theorem je{a x:Int}{n:Nat}:x∈b_ a n↔a<=x/\x<a+n:=by
 unfold b_;rw[abX];constructor
 .rintro⟨i,m,rfl⟩
  have:=ahm.mp m
  lia
 .intro h;exact⟨(x-a).toNat,ahm.mpr (by lia),by lia⟩
theorem zQ(a:Int)(n:Nat):(b_ a n).Pairwise (· < ·):=by
 unfold b_;rw[afn];exact List.pairwise_lt_range.imp (λh=>by lia)
theorem AA(h:f ρ=some (.int i,t))(h2:g ρ=some (.int j,t2))(hi:small i=true)(hj:small j=true):pK f g ρ=some ((b_ i (j-i).toNat).map D.int,.own):=by
 unfold pK;rw[h,h2];dsimp only;rw[if_pos (by rw[hi,hj];rfl)];unfold b_;rw[ac4];rfl
theorem gA(p:Int->Bool)(f:Int->Int):∀l:List Int,l.filterMap (λx=>if p x=true then some (D.int (f x)) else none)=((l.filter p).map f).map D.int
 |[]=>rfl
 |a::r=>by
  rw[aen]
  by_cases hp:p a=true
  .rw[List.filter_cons_of_pos hp,if_pos hp,gA p f r];rfl
  .rw[List.filter_cons_of_neg hp,if_neg hp,gA p f r]
theorem Y4{js:List (Option Nat)}{it:IF}{g:GF}{tt:TF}{te:EF}{ρ:aO}{t:Tag}{l:List Int}{p:Int->Bool}{f:Int->Int}(hi:it ρ=some (l.map D.int,t))(hl:l.length<=10000)(h:∀x∈l,iW g tt te (ju js ρ) (.int x)=some (if p x=true then some (.int (f x)) else none)):
  iX js it g tt te ρ=some (iL ((l.filter p).map f),.own):=by
 have hc:=jQ (k:=λd=>match d with | .int x=>if p x=true then some (.int (f x)) else none | _=>none) hi (by rw[List.length_map];exact size_le hl) (λd m=>by
  exists 78;exact h x mx)
 rw[hc]
 congr 3
 clear hc h hi hl;rw[aeN];exact gA p f l
def lean(L:List (List Int))(m:Int):List Int:=if 1<=m then(L[(m-1).toNat]?).getD [] else[]
noncomputable abbrev sec(C:List Ch):List (List Int):=C.map (·.2.1)
theorem aau{α:Type}{f:α->D}{L:List α}{m:Int}{l:α}(h1:1<=m)(h2:m<=L.length)(h:L[(m-1).toNat]? = some l):dU (L.map f) (m-1)=some (f l):=by
 unfold dU lI;rw[List.length_map];rw[if_pos (by omega),if_pos (by omega),acV,aco,h];rfl
def ch(L:List Ch)(m:Int):Ch:=(L[(m-1).toNat]?).getD (0,[],[])
theorem aaR{L:List Ch}{m:Int}(h1:1<=m)(h2:m<=L.length):L[(m-1).toNat]? = some (ch L m):=by
 unfold ch;rw[abp (by lia)];rfl
theorem vU{L:List Ch}{m:Int}(h1:1<=m)(h2:m<=L.length):(ch L m).2.1=lean (sec L) m:=by
 unfold ch lean sec;rw[if_pos h1,aco,abp (by lia)];rfl
theorem EL{L:List Ch}{m:Int}(h1:1<=m)(h2:m<=L.length):VY [obj L,.int m]=some (ent (ch L m)):=
 cu rfl (dg (kN (b:=true) (bx (mU rfl rfl ((Iq L m).trans (by unfold inR;rw[aa1 h1,aa1 h2];rfl))))) (cK (aK rfl rfl (vD (aau h1 h2 (aaR h1 h2)) (FL _)))))
theorem Qd{L:List Ch}{m:Int}(h1:1<=m)(h2:m<=L.length):Hz [obj L,.int m]=some (iL (lean (sec L) m)):=
 cu rfl (cK (bf (aK (mU rfl rfl (EL h1 h2)) rfl (if_pos (show aC (D.tup _)=true by simp only[aC,eO]))) (by rw[Qu,vU h1 h2];rfl)))
def dM(L:List Ch)(m:Int):List Ed:=(ch L m).2.2
theorem CD{L:List Ch}{m:Int}(h1:1<=m)(h2:m<=L.length):Aj [obj L,.int m]=some (eL (dM L m)):=
 cu rfl (cK (bf (aK (mU rfl rfl (EL h1 h2)) rfl (if_pos (show aC (D.tup _)=true from yf _))) (if_pos (yf _))))
theorem Q4{e:EF}{ρ:aO}{n:Nat}{t:Tag}(h:e ρ=some (.int n,t))(hs:n<=1000):xD e ρ=some ((b_ 0 n).map D.int,.own):=by
 rw[Xu h (nV (by lia) (by lia)),Int.toNat_natCast];unfold b_;rw[ac4];rfl
theorem D5{l:List Int}:l.any (· == m)=decide (m∈l):=by
 by_cases h:m∈l
 .rw[aa1 h];exact ad6.mpr ⟨m,h,by simp⟩
 .rw[abR h,agd];intro e;obtain⟨y,my,ey⟩:=ad6.mp e;exact h (by rw[<- (afJ.mp ey)];exact my)
theorem JM:x∈dQ l↔x∈l:=(tQ l).mem_iff
structure D8(E:List Ed)(n:Nat):Prop where
 so:(E.map (·.1)).Pairwise (·<=·)
 ln:E.length<=n
theorem Gw(h:n<4096):n<sizeLine:=by unfold sizeLine;lia
def qg(es:List (Int×Int))(p:Int×Int×Int):Bool:=!((bQ es p.1).getD 0==p.2.1)
def bad(es:List (Int×Int))(E:List (Int×Int×Int)):List Int:=(E.filter (qg es)).map (·.1)
noncomputable def wz:List Int->D
 |[]=>.aA
 |x::_=>.int x
theorem UO:∀{x} {l},(x::l).Pairwise (·<=·)->jZ (x::l)=x
 |x,l,h=>by
  obtain⟨h1,h2⟩:=DG (l:=x::l) (by simp);have h3:=h2 x aar;rcases abb.mp h1 with e|m
  .exact e
  .have:=(adK.mp h).1 _ m;lia
def kW(es:List (Int×Int)):D->Option D
 |.tup [.int a,.int b,.int c]=>if qg es (a,b,c)=true then some (.int a) else none
 |_=>none
theorem adW:∀p,kW es (dT p)=if qg es p=true then some (D.int p.1) else none
 |(_,_,_)=>rfl
theorem JT(hE:D8 E n)(hn:n<64)(w:List D->D)(hw:iC (aj 1) [some (bK es,.sh []),some (w (E.map dT),.sh [])]=some (E.map dT,.sh [])):Ei [bK es,w (E.map dT)]=some (wz (bad es E)):=by
 have hc:=jQ (js:=[none,none,none,some 0]) (g:=gT (ez (gN 0) (ez (gN 1) (ez (gN 2) lS)))) (tt:=tV (e2 jw (e3 tE (aj 3) (aj 0) (eC (.int 0))) (aj 1))) (te:=aj 0) (k:=kW es) hw (by rw[List.length_map];exact Gw (by have:=hE.ln;lia)) (λd m=>by
  obtain⟨⟨a,b,c⟩,mi,rfl⟩:=abX.mp m;show _=some (if qg es (a,b,c)=true then some (D.int a) else none);have ht:(tV (e2 jw (e3 tE (aj 3) (aj 0) (eC (.int 0))) (aj 1))) [some (.int a,.own),some (.int b,.own),some (.int c,.own),some (bK es,.sh [])]=some (qg es (a,b,c)):=by
   rw[zf,kD,Kv];show Ev.kV (k2 jw ((tE (bK es) (.int a) (.int 0)).map _) _)=_;rw[RO];rfl
  by_cases h:qg es (a,b,c)=true
  .rw[if_pos h];exact rG (aS:=[some (.int a,.own),some (.int b,.own),some (.int c,.own),some (bK es,.sh [])]) rfl (by rw[ht,h]) rfl rfl
  .rw[if_neg h];exact zL (aS:=[some (.int a,.own),some (.int b,.own),some (.int c,.own),some (bK es,.sh [])]) rfl (by rw[ht,agd.mpr h]))
 have hb:(E.map dT).filterMap (kW es)=(bad es E).map D.int:=by
  clear hc hw hE;unfold bad
  induction E with
  |nil=>rfl
  |cons p r ih=>
   rw[aas,aen,agC,adW]
   by_cases h:qg es p=true
   .rw[if_pos h,if_pos h];dsimp only;rw[ih];rfl
   .rw[if_neg h,if_neg h];exact ih
 rw[hb] at hc;have hs:(bad es E).Pairwise (·<=·):=by
  unfold bad;have:=hE.so;rw[afn] at this ⊢;exact this.filter _
 refine cu rfl (cK (aK hc rfl ?_));show(match d_ ((bad es E).map D.int) with|some []=>if aC .aA=true then some D.aA else none|some (n::r)=>some (D.int (jZ (n::r)))|none=>none)=_;rw[vj];cases e:bad es E with
 |nil=>rfl
 |cons x l=>
  dsimp only;rw[UO (by rw[<- e];exact hs)];rfl
def rV(es:List (Int×Int)):List Int:=(dQ (es.map (·.1))).filter λk=>!((bQ es k).getD 0==0)
def nz(es:List (Int×Int)):List (Int×Int):=(rV es).map λk=>(k,(bQ es k).getD 0)
def kS(es:List (Int×Int)):D->Option D
 |.int i=>if(!((bQ es i).getD 0==0))=true then some (dP (i,(bQ es i).getD 0)) else none
 |_=>none
theorem af3(hl:es.length<64):ad7 [bK es]=some (.lst ((nz es).map dP)):=by
 have hs:(e1 mS (aj 0)) [some (bK es,.sh [])]=some (.lst ((dQ (es.map (·.1))).map D.int),.own):=by
  rw[ya];show(mS (bK es)).map _=_;rw[acZ (by omega)];rfl
 have hc:=jQ (js:=[none,some 0]) (g:=gN 0) (tt:=tV (e2 jw (e2 oi (aj 1) (aj 0)) (eC (.int 0)))) (te:=mD (ay (aj 0) (ay (e2 oi (aj 1) (aj 0)) aJ))) (k:=kS es)
   (gW hs) (by rw[List.length_map,Ci,List.length_map];exact Gw (by omega)) (λd m=>by
  obtain⟨i,mi,rfl⟩:=abX.mp m;obtain⟨w,hw⟩:=sF.mpr (JM.mp mi);have hg:=SV hw;show _=some (if(!((bQ es i).getD 0==0))=true then some (dP (i,(bQ es i).getD 0)) else none);have ht:(tV (e2 jw (e2 oi (aj 1) (aj 0)) (eC (.int 0)))) [some (.int i,.sh []),some (bK es,.sh [])]=some (!((bQ es i).getD 0==0)):=by
   rw[zf,kD,kD];show Ev.kV (k2 jw ((oi (bK es) (.int i)).map _) _)=_;rw[hg,hw];rfl
  by_cases h:(!((bQ es i).getD 0==0))=true
  .rw[if_pos h];refine rG (aS:=[some (.int i,.sh []),some (bK es,.sh [])]) (tg:=.sh []) rfl (by rw[ht,h]) ?_ rfl;rw[rT,aX,aX,kD];show Option.map _ (lJ _ (lJ ((oi (bK es) (.int i)).map _) _))=_;rw[hg,hw];rfl
  .rw[if_neg h];exact zL (aS:=[some (.int i,.sh []),some (bK es,.sh [])]) rfl (by rw[ht,agd.mpr h]))
 refine(cu rfl (cK hc)).trans ?_
 congr 2
 unfold nz rV;generalize dQ (es.map (·.1))=l;clear hs hc
 induction l with
 |nil=>rfl
 |cons x r ih=>
  rw[aas,aen,agC]
  by_cases h:(!((bQ es x).getD 0==0))=true
  .rw[if_pos h,show kS es (.int x)=some (dP (x,(bQ es x).getD 0)) from if_pos h];dsimp only;rw[ih];rfl
  .rw[if_neg h,show kS es (.int x)=none from if_neg h];exact ih
def eS(es:List (Int×Int))(E:List (Int×Int×Int)):List (Int×Int):=E.foldl (λm p=>gH m p.1 p.2.2) es
theorem N5:∀(E) (es),(es.map (·.1)).Nodup->((eS es E).map (·.1)).Nodup
 |[],_,h=>h
 |p::r,es,h=>N5 r _ (Oz h)
theorem CM:∀(E) (es) (k),(E.map (·.1)).Nodup->(∀p∈E,p.1=k->bQ (eS es E) k=some p.2.2)/\(k∉E.map (·.1)->bQ (eS es E) k=bQ es k)
 |[],es,k,_=>⟨λp m=>(nomatch m),λ_=>rfl⟩
 |q::r,es,k,h=>by
  obtain⟨h1,h2⟩:=abV.mp h;obtain⟨a,b⟩:=CM r (gH es q.1 q.2.2) k h2;refine⟨λp m e=>?_,λm=>?_⟩
  .rcases abb.mp m with rfl|m
   .show bQ (eS (gH es p.1 p.2.2) r) k=_;rw[b (by rw[<- e];exact h1),AK,if_pos e.symm]
   .exact a p m e
  .show bQ (eS (gH es q.1 q.2.2) r) k=_;rw[aas] at m;rw[b λx=>m (aaa _ x),AK,if_neg λx=>m (by rw[x];exact aar)]
noncomputable abbrev iu:=List (Int×Int)
theorem Bb(S:iu->Slot->Slot->Slot->aO)(hg:∀v x y z (p:Ed),g (dT p) t (S v x y z)=some (S v (some (.int p.1,.own)) (some (.int p.2.1,.own)) (some (.int p.2.2,.own))))(hf:∀v (p:Ed),v.length<sizeLine->f (S v (some (.int p.1,.own)) (some (.int p.2.1,.own)) (some (.int p.2.2,.own)))=some (.nx (S (gH v p.1 p.2.2) (some (.int p.1,.own)) (some (.int p.2.1,.own)) (some (.int p.2.2,.own))))):
  ∀{E} {v} {x y z},v.length+E.length<4096->∃x' y' z',dh g t f (E.map dT) (S v x y z)=some (.nx (S (eS v E) x' y' z'))
 |[],_,x,y,z,_=>⟨x,y,z,rfl⟩
 |p::E,v,x,y,z,hl=>by
  rw[acf] at hl;obtain⟨x',y',z',ih⟩:=Bb S hg hf (E:=E) (v:=gH v p.1 p.2.2) (by have:=afN (es:=v) (k:=p.1) (v:=p.2.2);lia);exact⟨x',y',z',(kR (hg ..) (hf _ _ (Gw (by lia)))).trans ih⟩
def yL(S L:D)(es:List (Int×Int))(s3 s4 s5 s6 s7:Slot):aO:=[some (S,.sh []),some (L,.sh []),some (bK es,.own),s3,s4,s5,s6,s7]
abbrev Nv:GF:=gT (ez (gN 5) (ez (gN 6) (ez (gN 7) lS)))
abbrev My:SF:=qT 2 (aj 5) (aj 7)
theorem QT:k∈rV es↔(bQ es k).getD 0≠0:=by
 unfold rV;rw[acL];refine⟨λh=>by simpa using h.2,λh=>⟨JM.mpr (sF.mp ?_),by simpa using h⟩⟩;cases e:bQ es k with
 |none=>rw[e] at h;exact absurd rfl h
 |some v=>exact⟨v,rfl⟩
theorem O_(h:(es.map (·.1)).Nodup):(rV es).Nodup:=((tQ _).nodup_iff.mpr h).sublist aeY
theorem QH:(nz es).map (·.1)=rV es:=by
 unfold nz;rw[ac4];exact List.map_id' _
theorem HG(f:Int->Int)(k:Int):∀l:List Int,bQ (l.map λk=>(k,f k)) k=if k∈l then some (f k) else none
 |[]=>rfl
 |x::r=>by
  have ih:=HG f k r;rw[aas];unfold bQ at ih ⊢;rw[adz]
  by_cases hx:x=k
  .rw[aa1 hx,if_pos (by rw[hx];exact aar),hx];rfl
  .rw[abR hx];dsimp only;rw[ih];have:(k∈x::r)↔k∈r:=⟨λm=>(abb.mp m).elim (λe=>absurd e.symm hx) id,aaa _⟩
   simp only[this]
theorem Te(k:Int):(bQ (nz es) k).getD 0=(bQ es k).getD 0:=by
 unfold nz;rw[HG]
 by_cases h:k∈rV es
 .rw[if_pos h];rfl
 .rw[if_neg h];have:=mt QT.mpr h;simp only[ne_eq,Decidable.not_not] at this;rw[this];rfl
theorem SM(h:(es.map (·.1)).Nodup)(k:Int):(bQ (jN (nz es)) k).getD 0=(bQ es k).getD 0:=by
 rw[Q6 (by rw[QH];exact O_ h),Te]
theorem Ui(ps:List (Int×Int)):((jN ps).map (·.1)).Nodup:=by
 have go:∀(ps m:List (Int×Int)),(m.map (·.1)).Nodup->((ps.foldl (λm p=>gH m p.1 p.2) m).map (·.1)).Nodup:=by
  intro ps
  induction ps with
  |nil=>intro m h;exact h
  |cons p r ih=>intro m h;exact ih _ (Oz h)
 exact go ps [] acj
theorem sub_len[DecidableEq α]:∀{l m:List α},l.Nodup->(∀x∈l,x∈m)->l.length<=m.length
 |[],m,_,_=>aes _
 |a::l,m,h,s=>by
  obtain⟨ha,hl⟩:=abV.mp h;have ma:=s a aar;have:=sub_len (m:=m.erase a) hl λx mx=>(List.mem_erase_of_ne λe=>ha (by rw[<- e];exact mx)).mpr (s x (aaa _ mx))
  rw[List.length_erase_of_mem ma] at this;have:=List.length_pos_of_mem ma;rw[acf];omega
theorem abU(h:k∈(gH es a c).map (·.1)):k=a\/k∈es.map (·.1):=by
 obtain⟨w,e⟩:=sF.mpr h;rw[AK] at e
 split at e
 .rename_i q;exact .inl q
 .exact .inr (sF.mp ⟨w,e⟩)
theorem O6{S:List Int}:∀{E} {es},(∀p∈E,p.1∈S)->(∀k∈es.map (·.1),k∈S)->∀k∈(eS es E).map (·.1),k∈S
 |[],es,_,h=>h
 |p::E,es,hE,h=>O6 (es:=gH es p.1 p.2.2) (λq m=>hE q (aaa _ m)) λk m=>(abU m).elim (λe=>by rw[e];exact hE p aar) (h k)
def f6:iu->List (List Ed)->Option iu
 |v,[]=>some v
 |v,E::r=>if bad v E=[] then f6 (eS v E) r else none
structure Kb(v:iu):Prop where
 nd:(v.map (·.1)).Nodup
 ks:∀k∈v.map (·.1),k∈b_ 0 60
theorem Kb.len{v:iu}(h:Kb v):v.length<=60:=by
 have:=sub_len h.nd h.ks;rw[List.length_map] at this;unfold b_ at this
 rwa [List.length_map,ahk] at this
theorem Kb.nil:Kb []:=⟨.nil,λk m=>nomatch m⟩
structure Ee(E:List Ed):Prop where
 ed:D8 E 20
 nd:(E.map (·.1)).Nodup
 sl:∀p∈E,p.1∈b_ 0 60
theorem Kb.eS{v:iu}(h:Kb v)(e:Ee E):Kb (eS v E):=⟨N5 E v h.nd,O6 e.sl h.ks⟩
abbrev N8(Z:SF):SF:=b7 (dG 4 (cO Ei (ay (aj 2) (ay (aj 3) aJ)))) (b7 (eX (tV (e2 Bw (aj 4) (eC .aA))) Z gK) (jk (iC (aj 3)) Nv My))
theorem Sw{Z:SF}{S L:D}(hE:D8 E 20)(hb:bad v E=[])(hl:v.length<=3000):∃t5 t6 t7,N8 Z (yL S L v (some (eL E,.sh [])) s4 s5 s6 s7)=some (.nx (yL S L (eS v E) (some (eL E,.sh [])) (some (.aA,.own)) t5 t6 t7)):=by
 have hle:=hE.ln;obtain⟨t5,t6,t7,lp⟩:=Bb (g:=Nv) (f:=My) (λv x y z=>yL S L v (some (eL E,.sh [])) (some (.aA,.own)) x y z) (λ_ _ _ _ _=>rfl) (λv p h=>GQ rfl rfl rfl h) (E:=E) (v:=v) (by lia);exact⟨t5,t6,t7,kU (d:=.aA) (cR rfl (by show Ei [bK v,.lst (E.map dT)]=_;rw[JT hE (by lia) D.lst rfl,hb];rfl)) (sq rfl (AG rfl lp))⟩
theorem Nm{Z:SF}{S L:D}:∀{Es} {v v'} {s3 s4 s5 s6 s7},(∀E∈Es,Ee E)->f6 v Es=some v'->Kb v->
  ∃t3 t4 t5 t6 t7,dh (gN 3) (.sh []) (N8 Z) (Es.map eL) (yL S L v s3 s4 s5 s6 s7)=some (.nx (yL S L v' t3 t4 t5 t6 t7))/\Kb v'
 |[],v,v',s3,s4,s5,s6,s7,_,h,k=>by
  cases h;exact⟨s3,s4,s5,s6,s7,rfl,k⟩
 |E::Es,v,v',s3,s4,s5,s6,s7,hE,h,k=>by
  unfold f6 at h
  by_cases hb:bad v E=[]
  .rw[if_pos hb] at h;have Nf:=hE E aar;obtain⟨t5,t6,t7,hs⟩:=Sw Nf.ed hb (by have:=k.len;lia);obtain⟨u3,u4,u5,u6,u7,ih,k'⟩:=Nm (λE' m=>hE E' (aaa _ m)) h (k.eS Nf);exact⟨u3,u4,u5,u6,u7,(kR rfl hs).trans ih,k'⟩
  .rw[if_neg hb] at h;cases h
def dS(ps:iu):D:=.lst (ps.map dP)
def gb(C:List Ch)(row:List Int):List (List Ed):=row.map (dM C)
noncomputable abbrev Row(C:List Ch)(ns:List Int):Prop:=∀x∈ns,1<=x/\x<=(C.length:Int)
structure GoodC(C:List Ch):Prop where
 ln:C.length<=60
 ed:∀m,Ee (dM C m)
 bd:∀m x,1<=m->m<=(C.length:Int)->x∈lean (sec C) m->1<=x/\x<m
 few:∀m,(lean (sec C) m).length<=60
theorem JG{C:List Ch}{row:List Int}(g:GoodC C)(hb:Row C row)(hl:row.length<=100)(h:f6 [] (gb C row)=some v):aaM [obj C,iL row]=some (dS (nz v))/\Kb v:=by
 have hE:∀E∈gb C row,Ee E:=λE m=>by
  obtain⟨x,_,rfl⟩:=abX.mp m;exact g.ed x
 obtain⟨t3,t4,t5,t6,t7,vf,kv⟩:=Nm hE h Kb.nil;have hc:=jQ (js:=[none,some 0]) (it:=iC (aj 1)) (ρ:=[some (obj C,.sh []),some (iL row,.sh [])]) (g:=gN 0) (tt:=um) (te:=cD "Changes" "edits_of" Aj (aj 1) (ay (aj 0) aJ)) (k:=λd=>match d with | .int x=>some (eL (dM C x)) | _=>none) (gW rfl) (by rw[List.length_map];exact size_le (by lia)) (λd m=>by
  exists 78;obtain⟨h1,h2⟩:=hb x mx;exact qQ rfl rfl (mU rfl rfl (CD h1 h2)))
 rw[aeN,show(row.filterMap ((λd=>match d with|D.int x=>some (eL (dM C x))|_=>none) ∘ D.int))=(gb C row).map eL from(pH _ _).trans (by unfold gb;rw[ac4];rfl)] at hc;exact⟨cu rfl (cK (cR (by rw[aX,aX];show lJ _ (lJ (iX _ _ _ _ _ [some (obj C,.sh []),some (iL row,.sh [])]) _)=_;rw[hc];rfl) (cu rfl (kU rfl (sq (AG rfl vf) (cK (cR (ps:=[(bK v,.sh [2])]) rfl (af3 (by have:=kv.len;lia))))))))),kv⟩
abbrev gV(es:iu)(k:Int):Int:=(bQ es k).getD 0
def ji(C:List Ch)(v:iu)(m:Int):Bool:=(bad v (dM C m)).isEmpty
theorem Ys:ji C v m=true↔bad v (dM C m)=[]:=List.isEmpty_iff
theorem Th:gR (wz l) .aA=some (.bl l.isEmpty):=by cases l<;>rfl
theorem yG{l:List Int}(hi:it ρ=some (l.map D.int,t))(hl:l.length<=10000)(hr:∀x,gN 0 (.int x) (.sh []) (ju js ρ)=some (some (.int x,.sh [])::r))(h:∀x∈l,tt (some (.int x,.sh [])::r)=some (p x)):
  iX js it (gN 0) tt (aj 0) ρ=some (iL (l.filter p),.own):=by
 have:=Y4 (tt:=tt) (te:=aj 0) hi hl (λx mx=>by
  by_cases hp:p x=true
  .rw[if_pos hp];exact rG (hr x) (by rw[h x mx,hp]) rfl rfl
  .rw[if_neg hp];exact zL (hr x) (by rw[h x mx,agd.mpr hp]))
 rw[List.map_id'] at this;exact this
theorem S8(h1:fv ρ=some (.int n,t))(h2:ρ[i]? = some (some (iL ns,.own)))(hm:n∈ns):wH i fv ρ=some (.nx (bT ρ i (iL (ns.erase n)))):=by
 unfold wH;rw[h1,h2];unfold iL;dsimp only;rw[vj];dsimp only;rw[if_pos hm]
noncomputable def kB(k:Int):Key×D:=(Sum.inl k,.bl true)
def dB(ks:List Int):D:=.bP (ks.map kB)
noncomputable def add(ks:List Int)(k:Int):List Int:=if k∈ks then ks else ks++[k]
theorem Um:x∈add ks k↔x∈ks\/x=k:=by
 unfold add
 by_cases h:k∈ks
 .rw[if_pos h];exact⟨.inl,λe=>e.elim id λe=>by rw[e];exact h⟩
 .rw[if_neg h,abE,aa3]
theorem Ql{ks:List Int}:((ks.map kB).any λkv=>decide (kv.1=(Sum.inl k:Key)))=decide (k∈ks):=by
 induction ks with
 |nil=>simp
 |cons a r ih=>
  rw[aas,afy,ih];have:decide ((kB a).1=(Sum.inl k:Key))=decide (a=k):=by
   exact agT.mpr uu
  rw[this]
  by_cases h:a=k
  .subst h;simp
  .simp[h,afr h]
theorem afh{ks:List Int}:pN false (.int x) (dB ks)=some (.bl (decide (x∈ks))):=by
 show some (D.bl (if false=true then _ else(bB (ks.map kB) (Sum.inl x:Key)).isSome))=_;rw[if_neg abz,<- Ql];unfold bB;rw[agx]
 congr 2
 rw[agX,List.find?_isSome,ad6]
theorem aao{ks:List Int}:putD (ks.map kB) (Sum.inl k:Key) (.bl true)=(add ks k).map kB:=by
 unfold putD add;rw[Ql]
 by_cases h:k∈ks
 .rw[if_pos (aa1 h),if_pos h,ac4];refine agc λa _=>?_
  show(if(Sum.inl a:Key)=Sum.inl k then((Sum.inl a:Key),D.bl true) else kB a)=kB a
  split<;>rfl
 .rw[if_neg (by simpa using h),if_neg h,ade];rfl
def adds(m l:List Int):List Int:=l.foldl add m
theorem Qn:∀{l m} {x},x∈adds m l↔x∈m\/x∈l
 |[],m,x=>by simp[adds]
 |a::l,m,x=>by
  have:=Qn (l:=l) (m:=add m a) (x:=x);show x∈adds (add m a) l↔_;rw[this,Um,abb,or_assoc]
noncomputable def qV(x:Int):D:=.tup [.int x,.bl true]
theorem NP:∀l:List Int,jK (l.map qV)=some (l.map kB)
 |[]=>rfl
 |p::r=>by
  rw[aas];show(match iA (.int p),jK (r.map qV) with|some k,some ps=>if aC (.bl true)=true then some ((k,D.bl true)::ps) else none|_,_=>none)=_;rw[NP r];rfl
theorem K_:∀(l m),(l.map kB).foldl (λm p=>putD m p.1 p.2) (m.map kB)=(adds m l).map kB
 |[],_=>rfl
 |p::r,m=>by rw[aas,aeF];show(r.map kB).foldl _ (putD (m.map kB) (Sum.inl p:Key) (.bl true))=_;rw[aao];exact K_ r _
theorem Uv:BP (.lst (l.map qV))=some (dB (adds [] l)):=by
 show(jK (l.map qV)).map _=_;rw[NP];show some (D.bP ((l.map kB).foldl (λm p=>putD m p.1 p.2) []))=_;rw[show([]:List (Key×D))=([]:List Int).map kB from rfl,K_];rfl
def nG(C:List Ch)(there:List Int)(m:Int):Bool:=(lean (sec C) m).all λx=>decide (x∈there)
theorem tw{g:SF}(ρ':aO)(h:g ρ'=r)(e:ρ=ρ':=by rfl):g ρ=r:=by rw[e,h]
theorem LP(h:f ρ=some (iL a,t))(h2:g ρ=some (iL b,t2))(hl:a.length+b.length<=1000):e2 fW (e1 qz f) (e1 qz g) ρ=some (iL (a++b),.own):=
 aK (bf h uY) (bf h2 uY) (pP (by rw[aeV];lia))
theorem Lb(g:GoodC C){a b wt:List Int}(hl:a.length+b.length<=1000)(hw:Row C wt)(CC:wt.length<=1000):AZ [obj C,iL a,iL b,iL wt]=some (iL (wt.filter (nG C (a++b)))):=by
 refine cu rfl (kU (bf (t:=.own) ?_ Uv) (tw [some (obj C,.sh []),some (iL a,.sh []),some (iL b,.sh []),some (iL wt,.sh []),some (dB (adds [] (a++b)),.own)] (cK (yG (gW rfl) (by lia) (λx=>rfl) (λx uo=>?_)))))
 .refine(jQ (k:=λd=>match d with | .int x=>some (qV x) | _=>none) (gW (LP rfl rfl hl)) (by rw[List.length_map,abN];exact size_le (by lia)) (λd m=>by
   obtain⟨x,uo,rfl⟩:=abX.mp m;exact rG rfl rfl rfl rfl)).trans ?_
  rw[aeN,show((a++b).filterMap ((λd=>match d with|D.int x=>some (qV x)|_=>none) ∘ D.int))=(a++b).map qV from pH qV _]
 .obtain⟨h1,h2⟩:=hw x uo;refine bx (M8 (gW (mU rfl rfl (Qd h1 h2))) (by have:=g.few x;lia) (λy my=>qQ rfl rfl (aK rfl rfl ?_)));rw[afh,show decide (y∈adds [] (a++b))=decide (y∈a++b) from agT.mpr (by rw[Qn];simp)]
theorem Uh(g:GoodC C)(hl:a.length+b.length<=100)(hb:Row C (a++b))(h:f6 [] (gb C (a++b))=some v):ZQ [obj C,iL a,iL b]=some (bK (jN (nz v))):=
 cu rfl (cK (bf (cR (ps:=[(obj C,.sh []),(iL (a++b),.own)]) (by rw[aX,aX];show lJ _ (lJ (e2 fW _ _ [some (obj C,.sh []),some (iL a,.sh []),some (iL b,.sh [])]) _)=_;rw[LP rfl rfl (by lia)];rfl) (JG g hb (by rw[abN];lia) h).1) QM))
theorem aej(h:∀k,gV u k=gV v k)(E:List Ed):bad u E=bad v E:=by
 unfold bad
 congr 1
 refine List.filter_congr λp _=>?_
 unfold qg;have:=h p.1;unfold gV at this;rw[this]
theorem acS(g:GoodC C)(h1:1<=m)(h2:m<=(C.length:Int)):Fy [obj C,bK v,.int m]=some (.bl (ji C v m)):=
 cu rfl (cK (aK (cR (ps:=[(bK v,.sh []),(eL (dM C m),.own)]) (by rw[aX,aX];show lJ _ (lJ (cD _ _ _ _ _ [some (obj C,.sh []),some (bK v,.sh []),some (.int m,.sh [])]) _)=_;rw[mU rfl rfl (CD h1 h2)];rfl) (JT (g.ed m).ed (by lia) D.lst rfl)) rfl Th))
theorem aeg{L:List Ch}{m:Int}(h1:1<=m)(h2:m<=L.length):AQ [obj L,.int m]=some (.int (ch L m).1):=
 cu rfl (cK (aK (mU rfl rfl (EL h1 h2)) rfl rfl))
abbrev kf:EF:=mD (ay (e1 BI (cD "Changes" "rank_of" AQ (aj 1) (ay (aj 0) aJ))) (ay (aj 0) aJ))
abbrev pr(C:List Ch):Int->Int×Int:=vv kf (obj C)
theorem PM{C:List Ch}{x:Int}(h1:1<=x)(h2:x<=C.length):tS kf (obj C) x=some (-(ch C x).1,x):=by
 unfold tS;have e:e1 BI (cD "Changes" "rank_of" AQ (aj 1) (ay (aj 0) aJ)) [some (.int x,.own),some (obj C,.sh [])]=some (.int (-(ch C x).1),.own):=bf (mU rfl rfl (aeg h1 h2)) rfl;show(match mD _ _ with|some (.tup [.int a,.int b],_)=>some (a,b)|_=>none)=_;rw[rT,aX,e];rfl
theorem acG(h:Row C ns)(hn:ns.Nodup):(ns.map (pr C)).Nodup:=by
 have NW:∀x∈ns,pr C x=(-(ch C x).1,x):=λx m=>by
  show(tS kf (obj C) x).getD _=_;rw[PM (h x m).1 (h x m).2];rfl
 unfold List.Nodup;rw[afn];refine hn.imp_of_mem λ{a b} ma mb ne e=>ne ?_
 rw[NW a ma,NW b mb] at e;exact(Prod.mk.injEq .. ▸ e).2
theorem aeE(h:Row C ns)(hn:ns.Nodup)(hl:ns.length<64):Pb [obj C,iL ns]=some (iL (jm (pr C) ns)):=by
 refine cu rfl (cK ?_);show(match d_ (ns.map D.int) with|some ns=>if ns.length<64/\(ns.map (pr C)).Nodup/\∀n∈ns,(tS kf (obj C) n).isSome=true then some (D.lst ((jm (pr C) ns).map D.int),Tag.own) else none|none=>none)=_;rw[vj];dsimp only;rw[if_pos ⟨hl,acG h hn,λx m=>by rw[PM (h x m).1 (h x m).2];rfl⟩];rfl
noncomputable def QE:Option Int->D
 |none=>.aA
 |some x=>.int x
def zw:SF:=eX (tV (cO Fy (ay (aj 0) (ay (aj 1) (ay (aj 3) aJ))))) (pW 3) gK
theorem OU(g:GoodC C):∀{l} {s3},Row C l->match l.find? (ji C v) with
  |some x=>dh (gN 3) (.sh []) zw (l.map D.int) [some (obj C,.sh []),some (bK v,.sh []),some (N,.sh []),s3]=some (.rt (.int x))
  |none=>∃t3,dh (gN 3) (.sh []) zw (l.map D.int) [some (obj C,.sh []),some (bK v,.sh []),some (N,.sh []),s3]=some (.nx [some (obj C,.sh []),some (bK v,.sh []),some (N,.sh []),t3])
 |[],s3,_=>⟨s3,rfl⟩
 |x::l,s3,h=>by
  obtain⟨h1,h2⟩:=h x aar;have q:tV (cO Fy (ay (aj 0) (ay (aj 1) (ay (aj 3) aJ)))) [some (obj C,.sh []),some (bK v,.sh []),some (N,.sh []),some (.int x,.sh [])]=some (ji C v x):=bx (cR rfl (acS g h1 h2));have ih:=OU g (v:=v) (N:=N) (s3:=some (.int x,.sh [])) λy m=>h y (aaa _ m)
  rw[adz];cases hf:ji C v x with
  |true=>
   rw[hf] at q;exact Cj (aS:=[some (obj C,.sh []),some (bK v,.sh []),some (N,.sh []),some (.int x,.sh [])]) rfl (by unfold zw;rw[ja,q];rfl)
  |false=>
   rw[hf] at q;have e:=kR (g:=gN 3) (t:=.sh []) (f:=zw) (ds:=l.map D.int) (ρ:=[some (obj C,.sh []),some (bK v,.sh []),some (N,.sh []),s3]) (aS:=[some (obj C,.sh []),some (bK v,.sh []),some (N,.sh []),some (.int x,.sh [])]) rfl (by unfold zw;rw[ja,q];rfl);dsimp only;rw[aas,e];exact ih
theorem Tg(g:GoodC C)(h:Row C ns)(hn:ns.Nodup)(hl:ns.length<64):A8 [obj C,bK v,iL ns]=some (QE ((jm (pr C) ns).find? (ji C v))):=by
 have hi:iC (cO Pb (ay (aj 0) (ay (aj 2) aJ))) [some (obj C,.sh []),some (bK v,.sh []),some (iL ns,.sh []),none]=some ((jm (pr C) ns).map D.int,.own):=gW (cR rfl (aeE h hn hl));have lp:=OU g (v:=v) (N:=iL ns) (l:=jm (pr C) ns) (s3:=none) λx m=>h x ((w6 ns).mem_iff.mp m)
 refine cu rfl ?_;cases e:(jm (pr C) ns).find? (ji C v) with
 |none=>
  rw[e] at lp;obtain⟨t3,lp⟩:=lp;exact sq (vK hi lp) rfl
 |some x=>
  rw[e] at lp;exact eY (Bl hi lp)
theorem Qc:∀{row} {v v'} {m},f6 v (gb C row)=some v'->bad v' (dM C m)=[]->f6 v (gb C (row++[m]))=some (eS v' (dM C m))
 |[],v,v',m,h,hb=>by
  cases h;show(if bad v (dM C m)=[] then f6 (eS v (dM C m)) [] else none)=_;rw[if_pos hb];rfl
 |x::r,v,v',m,h,hb=>by
  have h:(if bad v (dM C x)=[] then f6 (eS v (dM C x)) (gb C r) else none)=some v':=h;show(if bad v (dM C x)=[] then f6 (eS v (dM C x)) (gb C (r++[m])) else none)=_
  by_cases Se:bad v (dM C x)=[]
  .rw[if_pos Se] at h ⊢;exact Qc h hb
  .rw[if_neg Se] at h;cases h
theorem aeb(h1:c ρ=some true)(h2:b ρ=some (.nx ρ')):iF c b (n+1) ρ=iF c b n ρ':=by rw[iF,h1];dsimp only;rw[h2]
theorem Zm(h1:c ρ=some false):iF c b (n+1) ρ=some (.nx ρ):=by rw[iF,h1]
theorem adh(h1:c ρ=some true)(h2:b ρ=some (.rt d)):iF c b (n+1) ρ=some (.rt d):=by rw[iF,h1];dsimp only;rw[h2]
abbrev cF:TF:=tV (e2 oLt (e1 d7 (aj 5)) (aj 4))
abbrev bF:SF:=(b7 (dG 8 (cO A8 (ay (aj 0) (ay (aj 7) (ay (cO AZ (ay (aj 0) (ay (aj 1) (ay (aj 5) (ay (aj 6) aJ))))) aJ))))) (b7 (eX (tV (e2 gR (aj 8) (eC .aA))) (pW 5) gK) (b7 (l6 5 (aj 8)) (b7 (wH 6 (aj 8)) (jk (iC (cD "Changes" "edits_of" Aj (aj 0) (ay (aj 8) aJ))) (gT (ez (gN 9) (ez (gN 10) (ez (gN 11) lS)))) (qT 7 (aj 9) (aj 11)))))))
def rF(C:List Ch)(ln ld wt:List Int)(w:Int)(told left:List Int)(u:iu)(s8 s9 iD gz:Slot):aO:=[some (obj C,.sh []),some (iL ln,.sh []),some (iL ld,.sh []),some (iL wt,.sh []),some (.int w,.sh []),some (iL told,.own),some (iL left,.own),some (bK u,.own),s8,s9,iD,gz]
structure Fl(C:List Ch)(ln told left:List Int)(w:Int)(ex:List Int):Prop where
 nd:ex.Nodup
 sub:∀x∈ex,x∈left
 le:((told++ex).length:Int)<=w\/ex=[]
 fst:∀x r,ex=x::r->∃v,f6 [] (gb C (ln++told))=some v/\nG C (ln++told) x=true/\ji C v x=true
 run:∃v,f6 [] (gb C (ln++(told++ex)))=some v/\(w<=((told++ex).length:Int)\/∀x∈left,x∉ex->nG C (ln++(told++ex)) x=true->ji C v x=false)
theorem YX(g:GoodC C):∀{n} {told left} {u v} {s8 s9 iD gz},Row C left->left.Nodup->left.length<64->ln.length+told.length+left.length<=1000->f6 [] (gb C (ln++told))=some v->(∀k,gV u k=gV v k)->Kb u->left.length<n->
  ∃ex,b7 (iF cF bF n) (pW 5) (rF C ln ld wt w told left u s8 s9 iD gz)=some (.rt (iL (told++ex)))/\Fl C ln told left w ex:=by
 intro n
 induction n with
 |zero=>intros;omega
 |succ n ih=>
  intro told left u v s8 s9 iD gz hr nd hl hs hv hu ku hn;have c1:cF (rF C ln ld wt w told left u s8 s9 iD gz)=some (decide ((told.length:Int)<w)):=bx (aK (bf rfl (by show some (D.int (told.map D.int).length)=_;rw[List.length_map])) rfl rfl)
  by_cases hw:(told.length:Int)<w
  .rw[aa1 hw] at c1;have ef:ji C u=ji C v:=funext λx=>by unfold ji;rw[aej hu]
   have q1:cO A8 (ay (aj 0) (ay (aj 7) (ay (cO AZ (ay (aj 0) (ay (aj 1) (ay (aj 5) (ay (aj 6) aJ))))) aJ))) (rF C ln ld wt w told left u s8 s9 iD gz)=some (QE ((jm (pr C) (left.filter (nG C (ln++told)))).find? (ji C v)),.own):=by
    refine cR (ps:=[(obj C,.sh []),(bK u,.sh [7]),(iL (left.filter (nG C (ln++told))),.own)]) ?_ ?_
    .rw[aX,aX,aX,cR rfl (Lb g (by lia) hr (by lia))];rfl
    .show A8 [obj C,bK u,_]=_;rw[Tg g (λx m=>hr x (acL.mp m).1) (nd.sublist aeY) (agF (ae5 _ _) hl),ef]
   have pm:=λx=>(w6 (pr:=pr C) (left.filter (nG C (ln++told)))).mem_iff (a:=x)
   cases hb:(jm (pr C) (left.filter (nG C (ln++told)))).find? (ji C v) with
   |none=>
    rw[hb] at q1;refine⟨[],eY ((adh c1 (kU q1 (eY rfl))).trans (by rw[acE])),.nil,(λx m=>nomatch m),.inr rfl,(λx r e=>nomatch e),v,by rw[acE];exact hv,.inr λx m _ hf=>?_⟩;rw[acE] at hf;have:=afE.mp hb x ((pm x).mpr (acL.mpr ⟨m,hf⟩));simpa using this
   |some x=>
    rw[hb] at q1;have mf:=(pm x).mp (agH hb);have m:=(acL.mp mf).1;have f:=Ys.mp (ahg hb);obtain⟨h1,h2⟩:=hr x m;have hE:=(g.ed x).ed.ln;have hel:=List.length_erase_of_mem m;have hp:=List.length_pos_of_mem m;obtain⟨t9,UJ,vd,lp⟩:=Bb (g:=gT (ez (gN 9) (ez (gN 10) (ez (gN 11) lS)))) (f:=qT 7 (aj 9) (aj 11)) (λv x' y z=>rF C ln ld wt w (told++[x]) (left.erase x) v (some (.int x,.own)) x' y z) (λ_ _ _ _ _=>rfl) (λv p h=>GQ rfl rfl rfl h) (E:=dM C x) (v:=u) (by have:=ku.len;lia);have st:bF (rF C ln ld wt w told left u s8 s9 iD gz)=some (.nx (rF C ln ld wt w (told++[x]) (left.erase x) (eS u (dM C x)) (some (.int x,.own)) t9 UJ vd)):=by
     refine kU q1 (dg rfl ?_);refine sq ((JR rfl rfl (size_le (by lia))).trans rfl) ?_;refine sq ((S8 rfl rfl m).trans rfl) ?_;exact vK (gW (mU rfl rfl (CD h1 h2))) lp
    obtain⟨ex,e,F⟩:=ih (told:=told++[x]) (λy my=>hr y (List.mem_of_mem_erase my)) (nd.erase x) (by lia) (by rw[abN,aeh];lia) (by rw[<- afi];exact Qc hv f) (λk=>by
     obtain⟨a1,a2⟩:=CM (dM C x) u k (g.ed x).nd;obtain⟨b1,b2⟩:=CM (dM C x) v k (g.ed x).nd;unfold gV
     by_cases mk:k∈(dM C x).map (·.1)
     .obtain⟨p,mp,rfl⟩:=abX.mp mk;rw[a1 p mp rfl,b1 p mp rfl]
     .rw[a2 mk,b2 mk];exact hu k) (ku.eS (g.ed x)) (by lia)
    have ea:told++x::ex=told++[x]++ex:=by rw[afi];rfl
    refine⟨x::ex,?_,abV.mpr ⟨λmx=>(nd.mem_erase_iff.mp (F.sub x mx)).1 rfl,F.nd⟩,λy my=>(abb.mp my).elim (λe=>e ▸ m) λmy=>List.mem_of_mem_erase (F.sub y my),.inl ?_,(λy r e=>by cases e;exact⟨v,hv,(acL.mp mf).2,ahg hb⟩),?_⟩
    .rw[jG,aeb c1 st,<- jG,ea];exact e
    .rw[ea];rcases F.le with h|h
     .exact h
     .rw[h,acE,abN,aeh];lia
    .rw[ea];obtain⟨v',r1,r2⟩:=F.run;refine⟨v',r1,r2.imp id λr y my ny=>?_⟩;exact r y (nd.mem_erase_iff.mpr ⟨λe=>ny (e ▸ aar),my⟩) λq=>ny (aaa _ q)
  .rw[abR hw] at c1;exact⟨[],(sq (Zm c1) rfl).trans (by rw[acE];rfl),.nil,(λx m=>nomatch m),.inr rfl,(λx r e=>nomatch e),v,by rw[acE];exact hv,.inl (by rw[acE];lia)⟩
theorem X0(g:GoodC C)(hb:Row C (ln++ld))(hr:Row C wt)(nd:wt.Nodup)(hw:wt.length<64)(hl:ln.length+ld.length<=100)(hv:f6 [] (gb C (ln++ld))=some v):∃ex,EY [obj C,iL ln,iL ld,iL wt,.int w]=some (iL (ld++ex))/\Fl C ln ld wt w ex:=by
 have kv:=(JG g hb (by rw[abN];lia) hv).2;have kd:Kb (jN (nz v)):=⟨Ui _,λk m=>kv.ks k (sF.mp (by
  obtain⟨w,e⟩:=sF.mpr m;rw[Q6 (by rw[QH];exact O_ kv.nd)] at e;unfold nz at e;rw[HG] at e
  split at e
  .rename_i mk;have:=QT.mp mk;cases h:bQ v k with
   |none=>rw[h] at this;exact absurd rfl this
   |some y=>exact⟨y,rfl⟩
  .cases e))⟩
 obtain⟨ex,e,F⟩:=YX g (n:=4000) hr nd hw (by lia) hv (SM kv.nd) kd (by lia);exact⟨ex,cu rfl (kU (bf rfl uY) (kU (bf rfl uY) (kU (cR rfl (Uh g hl hb hv)) e))),F⟩
noncomputable def best:Int×Int->List (Int×Int)->Int×Int
 |p,[]=>p
 |p,q::r=>best (if p.2-p.1<q.2-q.1 then q else p) r
noncomputable def pairs(f:List Int):List (Int×Int):=f.zip f.tail
def mid(f:List Int):Int:=let p:=best (f.headD 0,f.headD 0) (pairs f);(p.1+p.2) / 2
theorem Bp:∀(l:List (Int×Int)) (p:Int×Int),best p l=p\/best p l∈l
 |[],p=>.inl rfl
 |q::r,p=>by
  unfold best
  by_cases h:p.2-p.1<q.2-q.1
  .rw[if_pos h];rcases Bp r q with e|e
   .rw[e];exact .inr aar
   .exact .inr (aaa _ e)
  .rw[if_neg h];rcases Bp r p with e|e
   .exact .inl e
   .exact .inr (aaa _ e)
theorem Aq:∀(l:List (Int×Int)) (p:Int×Int),p.2-p.1<=(best p l).2-(best p l).1/\∀q∈l,q.2-q.1<=(best p l).2-(best p l).1
 |[],p=>⟨Int.le_refl _,λq m=>nomatch m⟩
 |x::r,p=>by
  unfold best
  by_cases h:p.2-p.1<x.2-x.1
  .rw[if_pos h];obtain⟨h1,h2⟩:=Aq r x;refine⟨by lia,λq m=>?_⟩;rcases abb.mp m with rfl|m
   .exact h1
   .exact h2 q m
  .rw[if_neg h];obtain⟨h1,h2⟩:=Aq r p;refine⟨h1,λq m=>?_⟩;rcases abb.mp m with rfl|m
   .lia
   .exact h2 q m
theorem Jt:∀(r:List Int) (a:Int),(∀q∈pairs (a::r),q.2-q.1<=1)->(a::r).getLastD 0<=a+r.length
 |[],a,_=>by simp
 |b::r,a,h=>by
  have h1:b-a<=1:=h (a,b) (by unfold pairs;exact aar);have h2:=Jt r b λq m=>h q (by unfold pairs at m ⊢;exact aaa _ m)
  have e:(a::b::r).getLastD 0=(b::r).getLastD 0:=by simp[List.getLastD]
  rw[e,acf]
  lia
noncomputable abbrev fence(ws:List Int)(e:Int):List Int:=0::(ws++[e])
theorem JL(m:q∈pairs f):q.1∈f/\q.2∈f:=by
 unfold pairs at m;obtain⟨h1,h2⟩:=List.of_mem_zip m;exact⟨h1,List.mem_of_mem_tail h2⟩
theorem adC(hw:∀x∈ws,1<=x)(hl:(ws.length:Int)<e-1):1<=mid (fence ws e):=by
 have hf:∀x∈fence ws e,0<=x:=λx m=>by
  rcases abb.mp m with rfl|m
  .exact Int.le_refl _
  .rcases abE.mp m with m|m
   .have:=hw x m;lia
   .cases aa3.mp m;lia
 obtain⟨q,m,hq⟩:∃q∈pairs (fence ws e),2<=q.2-q.1:=by
  refine age λhn=>?_
  have:=Jt (ws++[e]) 0 λq m=>by
   refine age λh=>hn ⟨q,m,by lia⟩
  have q1:(0::(ws++[e])).getLastD 0=e:=by rw[show(0::(ws++[e]))=(0::ws)++[e] from rfl,List.getLastD_concat]
  rw[q1,abN,aeh] at this
  lia
 have hb:=(Aq (pairs (fence ws e)) ((fence ws e).headD 0,(fence ws e).headD 0)).2 q m;unfold mid;dsimp only;rcases Bp (pairs (fence ws e)) ((fence ws e).headD 0,(fence ws e).headD 0) with h|h
 .rw[h] at hb;dsimp only at hb
  lia
 .obtain⟨h1,h2⟩:=JL h;have:=hf _ h1
  lia
noncomputable def Rj(p:Int×Int):D:=.tup [.int p.1,.int p.2]
noncomputable def rM(f:List Int)(l h:Int)(t1 t2:Tag)(s3 s4:Slot):aO:=[some (.lst (f.map D.int),.sh []),some (.int l,t1),some (.int h,t2),s3,s4]
abbrev bM:SF:=eX (tV (e2 pO (e2 kg (aj 4) (aj 3)) (e2 kg (aj 2) (aj 1)))) (b7 (dG 1 (aj 3)) (dG 2 (aj 4))) gK
abbrev gM:GF:=gT (ez (gN 3) (ez (gN 4) lS))
theorem EV:∀(ps:List (Int×Int)) (p:Int×Int) (t1 t2:Tag) (s3 s4:Slot),∃t1' T4 xg Vj,dh gM (.sh []) bM (ps.map Rj) (rM f p.1 p.2 t1 t2 s3 s4)=some (.nx (rM f (best p ps).1 (best p ps).2 t1' T4 xg Vj))
 |[],p,t1,t2,s3,s4=>⟨t1,t2,s3,s4,rfl⟩
 |q::r,p,t1,t2,s3,s4=>by
  have hc:tV (e2 pO (e2 kg (aj 4) (aj 3)) (e2 kg (aj 2) (aj 1))) (rM f p.1 p.2 t1 t2 (some (.int q.1,.own)) (some (.int q.2,.own)))=some (decide (p.2-p.1<q.2-q.1)):=rfl
  by_cases h:p.2-p.1<q.2-q.1
  .have hb:bM (rM f p.1 p.2 t1 t2 (some (.int q.1,.own)) (some (.int q.2,.own)))=some (.nx (rM f q.1 q.2 (.sh [3]) (.sh [4]) (some (.int q.1,.own)) (some (.int q.2,.own)))):=by
    unfold bM;rw[ja,hc,aa1 h,Pe];rfl
   obtain⟨a,b,c,d,hh⟩:=EV r q (.sh [3]) (.sh [4]) (some (.int q.1,.own)) (some (.int q.2,.own));refine⟨a,b,c,d,(kR rfl hb).trans ?_⟩;unfold best;rw[if_pos h];exact hh
  .have hb:bM (rM f p.1 p.2 t1 t2 (some (.int q.1,.own)) (some (.int q.2,.own)))=some (.nx (rM f p.1 p.2 t1 t2 (some (.int q.1,.own)) (some (.int q.2,.own)))):=by
    unfold bM;rw[ja,hc,abR h,Oa];rfl
   obtain⟨a,b,c,d,hh⟩:=EV r p t1 t2 (some (.int q.1,.own)) (some (.int q.2,.own));refine⟨a,b,c,d,(kR rfl hb).trans ?_⟩;unfold best;rw[if_neg h];exact hh
theorem ac3(a:Int)(r:List Int):nO (some 1) none (.lst ((a::r).map D.int))=some (.lst (r.map D.int)):=by
 show(if aN ((a::r).map D.int)=true then some (D.lst (cutD ((a::r).map D.int) (some 1) none)) else none)=_;rw[if_pos (eO _)];have:cutD ((a::r).map D.int) (some 1) none=r.map D.int:=by
  unfold cutD;have e:HT.gJ ((a::r).map D.int).length 0 (some 1)=1:=by
   have q:=HT.Du ((a::r).map D.int).length 0 1;rw[show((1:Nat):Int)=1 from rfl] at q;rw[q,List.length_map,acf];lia
  rw[HT.C4,e,aas,List.drop_succ_cons,List.drop_zero,acf,Nat.add_sub_cancel,List.take_length]
 rw[this]
theorem adk(a:Int)(r:List Int):y9 [.lst ((a::r).map D.int)]=some (.int (mid (a::r))):=by
 refine cu rfl ?_;show G6 [some (.lst ((a::r).map D.int),.sh []),none,none,none,none]=_;unfold G6;have q1:dG 1 (e2 dZ (aj 0) (eC (.int 0))) [some (.lst ((a::r).map D.int),.sh []),none,none,none,none]=some (.nx [some (.lst ((a::r).map D.int),.sh []),some (.int a,.own),none,none,none]):=by
  have hx:dZ (.lst ((a::r).map D.int)) (.int 0)=some (.int a):=vD (by rw[P9 (by lia) (by rw[acf];lia)];rfl) rfl;rw[j9,kD];show Bs 1 _ ((dZ (.lst ((a::r).map D.int)) (.int 0)).map _)=_;rw[hx];rfl
 have q2:dG 2 (aj 1) [some (.lst ((a::r).map D.int),.sh []),some (.int a,.own),none,none,none]=some (.nx (rM (a::r) a a .own (.sh [1]) none none)):=rfl;have hz:pR (aj 0) (e1 (nO (some 1) none) (aj 0)) (rM (a::r) a a .own (.sh [1]) none none)=some ((pairs (a::r)).map Rj,.sh []):=by
  unfold pR;have v0:aj 0 (rM (a::r) a a .own (.sh [1]) none none)=some (.lst ((a::r).map D.int),.sh []):=rfl;have v1:e1 (nO (some 1) none) (aj 0) (rM (a::r) a a .own (.sh [1]) none none)=some (.lst (r.map D.int),.own):=by
   rw[ya,v0];show(nO (some 1) none (.lst ((a::r).map D.int))).map _=_;rw[ac3];rfl
  rw[v0,v1];dsimp only;rw[if_pos (by rw[eO,eO];rfl)];refine congrArg some (Prod.ext ?_ rfl);rw[List.zip_map,ac4];rfl
 obtain⟨t1,t2,s3,s4,hl⟩:=EV (pairs (a::r)) (a,a) .own (.sh [1]) none none;have hf:jk (pR (aj 0) (e1 (nO (some 1) none) (aj 0))) gM bM (rM (a::r) a a .own (.sh [1]) none none)=some (.nx (rM (a::r) (best (a,a) (pairs (a::r))).1 (best (a,a) (pairs (a::r))).2 t1 t2 s3 s4)):=vz hz hl;rw[jG,q1,nY,jG,q2,nY,jG];rw[hf,nY];unfold mid;rw[show((a::r).headD 0,(a::r).headD 0)=(a,a) from rfl];generalize best (a,a) (pairs (a::r))=p;have v1:aj 1 (rM (a::r) p.1 p.2 t1 t2 s3 s4)=some (.int p.1,HR 1 t1):=rfl;have v2:aj 2 (rM (a::r) p.1 p.2 t1 t2 s3 s4)=some (.int p.2,HR 2 t2):=rfl;rw[A5,kD,kD,v1,v2,yX,ly,PB,Ez,yX,Uc (by lia) (by lia)];rfl
noncomputable def jF:Option Int->D
 |none=>.aA
 |some b=>.int b
noncomputable def endOf(size:Int):Option Int->Int
 |none=>size+1
 |some b=>b
def pick(size:Int)(bad:Option Int)(e:Int)(ws:List Int):Int:=if(bad.isNone&&!(ws.any (· == size)))=true then size else mid (fence ws e)
def k9(size:Int)(bad:Option Int)(e:Int)(ws:List Int):List Int:=dQ (ws++[pick size bad e ws])
noncomputable def lim(e aZ:Int):Int:=if e-1<aZ then e-1 else aZ
def j_(size:Int)(bad:Option Int)(e aZ:Int):Nat->List Int->List Int
 |0,ws=>ws
 |n+1,ws=>if(ws.length:Int)<lim e aZ then j_ size bad e aZ n (k9 size bad e ws) else ws
theorem B3{bad:Option Int}:(k9 size bad e ws).length=ws.length+1:=by unfold k9;rw[Ci,abN];rfl
theorem O4(b:Option Int):oH (jF b)=b.isNone:=by cases b<;>rfl
abbrev cW:TF:=tV (e2 oLt (e1 d7 (aj 5)) (e2 wA (aj 3) (e2 kg (aj 4) (eC (.int 1)))))
abbrev bW:SF:=b7 (eX (jy (tV (e2 gR (aj 1) (eC .aA))) (tV (e2 (jP true) (aj 0) (aj 5)))) (l6 5 (aj 0)) (l6 5 (cO y9 (ay (e2 fW (e2 fW (jS (ay (eC (.int 0)) aJ)) (aj 5)) (jS (ay (aj 4) aJ))) aJ)))) (dG 5 (e1 mS (aj 5)))
def CJ(t:Tag):Prop:=t=.own\/t=.sh []
def rW(size:Int)(bad:Option Int)(kd:D)(aZ e:Int)(t4:Tag)(ws:List Int):aO:=[some (.int size,.sh []),some (jF bad,.sh []),some (kd,.sh []),some (.int aZ,.sh []),some (.int e,t4),some (.lst (ws.map D.int),.own)]
section
variable{size aZ e:Int}{bad:Option Int}
theorem MB:cW (rW size bad kd aZ e t4 ws)=some (decide ((ws.length:Int)<lim e aZ)):=by
 show some (decide (((ws.map D.int).length:Int)<(if e-1<aZ then e-1 else aZ)))=_;rw[List.length_map];rfl
theorem aaN:(tV (e2 (jP true) (aj 0) (aj 5))) (rW size bad kd aZ e t4 ws)=some (!(ws.any (· == size))):=by
 rw[zf,kD];show Ev.kV ((jP true (.int size) (.lst (ws.map D.int))).map _)=_;rw[AM];rfl
theorem afF:(jy (tV (e2 gR (aj 1) (eC .aA))) (tV (e2 (jP true) (aj 0) (aj 5)))) (rW size bad kd aZ e t4 ws)=some (bad.isNone&&!(ws.any (· == size))):=by
 refine vF ?_ aaN;show some (oH (jF bad))=_;rw[O4]
theorem Pu(h:CJ t4)(x:Int):bT (rW size bad kd aZ e t4 ws) 5 (.lst ((ws++[x]).map D.int))=rW size bad kd aZ e t4 (ws++[x]):=by
 rcases h with rfl|rfl<;>rfl
theorem aa4(hl:ws.length<63):(e2 fW (e2 fW (jS (ay (eC (.int 0)) aJ)) (aj 5)) (jS (ay (aj 4) aJ))) (rW size bad kd aZ e t4 ws)=some (.lst ((fence ws e).map D.int),.own):=by
 have h1:fW (.lst (([0]:List Int).map D.int)) (.lst (ws.map D.int))=some (.lst (([0]++ws).map D.int)):=pP (by unfold PySem.sizeLine;show 1+ws.length<=_;lia);have h2:fW (.lst (([0]++ws).map D.int)) (.lst (([e]:List Int).map D.int))=some (.lst (([0]++ws++[e]).map D.int)):=pP (by unfold PySem.sizeLine;rw[abN];show 1+ws.length+1<=_;lia);rw[kD,kD];show k2 fW ((fW (.lst (([0]:List Int).map D.int)) (.lst (ws.map D.int))).map _) _=_;rw[h1,PB];show(fW (.lst (([0]++ws).map D.int)) (.lst (([e]:List Int).map D.int))).map _=_;rw[h2];rfl
theorem Z9(ht:CJ t4)(hl:ws.length<63):bW (rW size bad kd aZ e t4 ws)=some (.nx (rW size bad kd aZ e t4 (k9 size bad e ws))):=by
 have hz:ws.length<PySem.sizeLine:=by unfold PySem.sizeLine;lia
 have h1:eX (jy (tV (e2 gR (aj 1) (eC .aA))) (tV (e2 (jP true) (aj 0) (aj 5)))) (l6 5 (aj 0)) (l6 5 (cO y9 (ay (e2 fW (e2 fW (jS (ay (eC (.int 0)) aJ)) (aj 5)) (jS (ay (aj 4) aJ))) aJ))) (rW size bad kd aZ e t4 ws)=some (.nx (rW size bad kd aZ e t4 (ws++[pick size bad e ws]))):=by
  rw[ja,afF];unfold pick
  by_cases hb:(bad.isNone&&!(ws.any (· == size)))=true
  .rw[hb,Pe,if_pos rfl,JR rfl rfl hz,Pu ht]
  .have xB:(bad.isNone&&!(ws.any (· == size)))=false:=by simpa using hb
   have hm:cO y9 (ay (e2 fW (e2 fW (jS (ay (eC (.int 0)) aJ)) (aj 5)) (jS (ay (aj 4) aJ))) aJ) (rW size bad kd aZ e t4 ws)=some (.int (mid (fence ws e)),.own):=by
    rw[s_call,aX,aa4 hl,yI,BR,OI];simp only[aas,ag9];have:=adk 0 (ws++[e]);rw[aas] at this;rw[this];rfl
   rw[xB,Oa,if_neg abz,JR hm rfl hz,Pu ht]
 unfold bW;rw[jG,h1,nY,j9,ya];show Bs 5 _ ((mS (.lst ((ws++[pick size bad e ws]).map D.int))).map _)=_;rw[acX (by rw[abN];show ws.length+1<64;lia)];rfl
theorem OA(ht:CJ t4)(hh:aZ<=60):∀(n:Nat) (ws:List Int) (m:Nat),aZ-ws.length<=n->n<m->iF cW bW m (rW size bad kd aZ e t4 ws)=some (.nx (rW size bad kd aZ e t4 (j_ size bad e aZ n ws)))
 |_,_,0,_,h=>absurd h (Nat.not_lt_zero _)
 |0,ws,m+1,h,_=>by
  have:¬((ws.length:Int)<lim e aZ):=by unfold lim;split<;>lia
  rw[iF,MB,abR this];rfl
 |n+1,ws,m+1,h,hm=>by
  rw[iF,MB];unfold j_
  by_cases hc:(ws.length:Int)<lim e aZ
  .have h1:(ws.length:Int)<aZ:=by unfold lim at hc;split at hc<;>lia
   rw[aa1 hc,if_pos hc];dsimp only;rw[Z9 ht (by lia)];exact OA ht hh n (k9 size bad e ws) m (by rw[B3];lia) (by lia)
  .rw[abR hc,if_neg hc]
end
noncomputable def kq(e:Int)(ks:List Int):List Int:=ks.filter λk=>decide (k<e)
noncomputable def kI(e:Int):D->Option D
 |.int i=>if decide (i<e)=true then some (.int i) else none
 |_=>none
theorem Ja(e:Int):∀ks:List Int,(ks.map D.int).filterMap (kI e)=(kq e ks).map D.int
 |[]=>rfl
 |k::r=>by
  unfold kq;rw[aas,aen,agC];have hk:kI e (D.int k)=if decide (k<e)=true then some (D.int k) else none:=rfl
  by_cases h:decide (k<e)=true
  .rw[hk,if_pos h,if_pos h,aas];dsimp only;rw[Ja e r];rfl
  .rw[hk,if_neg h,if_neg h];exact Ja e r
theorem afI{js:List (Option Nat)}(hi:it ρ=some (ks.map D.int,t))(hj:ju js ρ=[none,some (.int e,.sh [])])(hl:ks.length<64):
  iX js it (gN 0) (tV (e2 oLt (aj 0) (aj 1))) (aj 0) ρ=some (.lst ((kq e ks).map D.int),.own):=by
 have hc:=jQ (g:=gN 0) (tt:=tV (e2 oLt (aj 0) (aj 1))) (te:=aj 0) (k:=kI e) hi (by rw[List.length_map];unfold PySem.sizeLine;lia) (λd m=>by
  obtain⟨i,mi,rfl⟩:=abX.mp m;rw[hj];show _=some (if decide (i<e)=true then some (D.int i) else none)
  by_cases h:decide (i<e)=true
  .rw[if_pos h];refine rG rfl ?_ rfl rfl;show some (decide (i<e))=_;rw[h]
  .rw[if_neg h];refine zL rfl ?_;show some (decide (i<e))=_;rw[agd.mpr h])
 rw[hc,Ja]
theorem abO{bad:Option Int}(h0:aj 0 ρ=some (.int size,.sh []))(h1:aj 1 ρ=some (jF bad,.sh [])):∃t,CJ t/\nM (tV (e2 gR (aj 1) (eC .aA))) (e2 iM (aj 0) (eC (.int 1))) (aj 1) ρ=some (.int (endOf size bad),t):=by
 have hc:tV (e2 gR (aj 1) (eC .aA)) ρ=some bad.isNone:=by
  rw[zf,kD,h1,Ez,yX,Ua,O4];rfl
 cases bad with
 |none=>exact⟨.own,.inl rfl,by rw[OZ (by rw[hc];rfl),kD,h0,Ez,yX,ly];rfl⟩
 |some b=>exact⟨.sh [],.inr rfl,by rw[PD (by rw[hc];rfl),h1];rfl⟩
def W(size:Int)(bad:Option Int)(ks:List Int)(aZ:Int):List Int:=j_ size bad (endOf size bad) aZ 100 (kq (endOf size bad) ks)
theorem VF{bad:Option Int}(hh:aZ<=60)(hl:ks.length<64)(kd:D)(hk:iC (aj 2) [some (.int size,.sh []),some (jF bad,.sh []),some (kd,.sh []),some (.int aZ,.sh []),none,none]=some (ks.map D.int,.sh []))
  (X6:∀t,iC (aj 2) [some (.int size,.sh []),some (jF bad,.sh []),some (kd,.sh []),some (.int aZ,.sh []),some (.int (endOf size bad),t),none]=some (ks.map D.int,.sh [])) :
  E8 [.int size,jF bad,kd,.int aZ]=some (.lst ((W size bad ks aZ).map D.int)):=by
 refine cu rfl ?_;show F7 [some (.int size,.sh []),some (jF bad,.sh []),some (kd,.sh []),some (.int aZ,.sh []),none,none]=_;unfold F7;obtain⟨t4,ht,h1⟩:=abO (ρ:=[some (.int size,.sh []),some (jF bad,.sh []),some (kd,.sh []),some (.int aZ,.sh []),none,none]) rfl rfl;have q1:dG 4 (nM (tV (e2 gR (aj 1) (eC .aA))) (e2 iM (aj 0) (eC (.int 1))) (aj 1)) [some (.int size,.sh []),some (jF bad,.sh []),some (kd,.sh []),some (.int aZ,.sh []),none,none]=some (.nx [some (.int size,.sh []),some (jF bad,.sh []),some (kd,.sh []),some (.int aZ,.sh []),some (.int (endOf size bad),t4),none]):=by
  rw[j9,h1];rcases ht with rfl|rfl<;>rfl
 have q2:dG 5 (iX [none,some 4] (iC (aj 2)) (gN 0) (tV (e2 oLt (aj 0) (aj 1))) (aj 0)) [some (.int size,.sh []),some (jF bad,.sh []),some (kd,.sh []),some (.int aZ,.sh []),some (.int (endOf size bad),t4),none]=some (.nx (rW size bad kd aZ (endOf size bad) t4 (kq (endOf size bad) ks))):=by
  rw[j9,afI (X6 t4) rfl hl];rfl
 have q3:=OA (size:=size) (bad:=bad) (kd:=kd) (e:=endOf size bad) ht hh 100 (kq (endOf size bad) ks) 4000 (by lia) (by lia);rw[jG,q1,nY,jG,q2,nY,jG,q3,nY];rfl
theorem Wh{bad:Option Int}(hh:aZ<=60)(hl:ks.length<64):E8 [.int size,jF bad,.lst (ks.map D.int),.int aZ]=some (.lst ((W size bad ks aZ).map D.int)):=VF hh hl _ rfl λ_=>rfl
theorem RZ{bad:Option Int}(hh:aZ<=60):∀(n:Nat) (ws:List Int),ws.length<64->(j_ size bad e aZ n ws).length<64
 |0,ws,h=>h
 |n+1,ws,h=>by
  unfold j_
  split
  .rename_i hc;refine RZ hh n _ ?_;rw[B3];unfold lim at hc
   split at hc<;>lia
  .exact h
theorem UZ{bad:Option Int}(hh:aZ<=60)(hl:ks.length<64):(W size bad ks aZ).length<64:=RZ hh _ _ (agF (ae5 _ _) hl)
structure lF(e:Int)(ws:List Int):Prop where
 so:ws.Pairwise (· < ·)
 bd:∀x∈ws,1<=x/\x<e
theorem between:∀{f:List Int}{q:Int×Int}{x:Int},f.Pairwise (· < ·)->q∈pairs f->x∈f->x<=q.1\/q.2<=x
 |[],q,x,_,m,_=>by cases m
 |[a],q,x,_,m,_=>by cases m
 |a::b::r,q,x,hp,m,mx=>by
  obtain⟨h1,h2⟩:=adK.mp hp;have hs:pairs (a::b::r)=(a,b)::pairs (b::r):=rfl;rw[hs] at m;rcases abb.mp m with hq|m'
  .subst hq;rcases abb.mp mx with hx|uo
   .exact .inl (by show x<=a;lia)
   .rcases abb.mp uo with hx|mx2
    .exact .inr (by show b<=x;lia)
    .have:=(adK.mp h2).1 x mx2;exact .inr (by show b<=x;lia)
  .rcases abb.mp mx with hx|uo
   .have:=h1 q.1 (JL m').1;exact .inl (by lia)
   .exact between h2 m' uo
theorem VU(h:lF e ws)(he:1<=e):(fence ws e).Pairwise (· < ·):=by
 refine adK.mpr ⟨λx m=>?_,List.pairwise_append.mpr ⟨h.so,List.pairwise_singleton _ _,λx m y my=>?_⟩⟩
 .rcases abE.mp m with m|m
  .have:=h.bd x m;lia
  .cases aa3.mp m;lia
 .cases aa3.mp my;exact(h.bd x m).2
theorem ad5(h:lF e ws)(hl:(ws.length:Int)<e-1):mid (fence ws e)<e/\mid (fence ws e)∉ws:=by
 have hf:=VU h (by lia);obtain⟨q,m,hq⟩:∃q∈pairs (fence ws e),2<=q.2-q.1:=by
  refine age λhn=>?_
  have:=Jt (ws++[e]) 0 λq m=>by
   refine age λh=>hn ⟨q,m,by lia⟩
  have q1:(0::(ws++[e])).getLastD 0=e:=by rw[show(0::(ws++[e]))=(0::ws)++[e] from rfl,List.getLastD_concat]
  rw[q1,abN,aeh] at this
  lia
 have hb:=(Aq (pairs (fence ws e)) ((fence ws e).headD 0,(fence ws e).headD 0)).2 q m;unfold mid;dsimp only;rcases Bp (pairs (fence ws e)) ((fence ws e).headD 0,(fence ws e).headD 0) with h'|h'
 .rw[h'] at hb;dsimp only at hb
  lia
 .generalize best ((fence ws e).headD 0,(fence ws e).headD 0) (pairs (fence ws e))=p at hb h';have h2:p.2<=e:=by
   have:=(JL h').2;rcases abb.mp this with z|z
   .lia
   .rcases abE.mp z with z|z
    .have:=(h.bd _ z).2;lia
    .rw[aa3.mp z];exact Int.le_refl _
  refine⟨by lia,λmx=>?_⟩;rcases between hf h' (aaa _ (abq _ mx)) with z|z<;>lia
section
variable{size aZ e:Int}{bad:Option Int}
theorem Yq(h:lF e ws)(he:e=endOf size bad)(hl:(ws.length:Int)<e-1):1<=pick size bad e ws/\pick size bad e ws<e/\pick size bad e ws∉ws:=by
 unfold pick
 split
 .rename_i hc;cases bad with
  |none=>
   have he:e=size+1:=he;refine⟨by lia,by lia,λm=>?_⟩;have:ws.any (· == size)=true:=ad6.mpr ⟨size,m,afl size⟩;rw[this] at hc;cases hc
  |some b=>cases hc
 .obtain⟨h1,h2⟩:=ad5 h hl;exact⟨adC (λx m=>(h.bd x m).1) hl,h1,h2⟩
theorem Wj(h:lF e ws)(he:e=endOf size bad)(hl:(ws.length:Int)<e-1):lF e (k9 size bad e ws)/\∀x∈ws,x∈k9 size bad e ws:=by
 obtain⟨p1,p2,p3⟩:=Yq h he hl;have hp:(k9 size bad e ws).Perm (ws++[pick size bad e ws]):=tQ _;have hn:(k9 size bad e ws).Nodup:=by
  refine hp.nodup_iff.mpr (acP.mpr ⟨h.so.imp λcU=>Int.ne_of_lt cU,abV.mpr ⟨(λm=>by cases m),acj⟩,λa ma b mb e=>?_⟩);cases aa3.mp mb;exact p3 (e ▸ ma)
 refine⟨⟨?_,λx m=>?_⟩,λx m=>hp.mem_iff.mpr (abq _ m)⟩
 .have hs:(k9 size bad e ws).Pairwise (·<=·):=CL _;exact(List.pairwise_and_iff.mpr ⟨hs,hn⟩).imp λh=>by have h1:=h.1;have h2:=h.2;lia
 .rcases abE.mp (hp.mem_iff.mp m) with m|m
  .exact h.bd x m
  .rw[aa3.mp m];exact⟨p1,p2⟩
theorem LY(he:e=endOf size bad):∀(n:Nat) (ws:List Int),lF e ws->lF e (j_ size bad e aZ n ws)/\∀x∈ws,x∈j_ size bad e aZ n ws
 |0,ws,h=>⟨h,λx m=>m⟩
 |n+1,ws,h=>by
  unfold j_
  split
  .rename_i hc;have hl:(ws.length:Int)<e-1:=by unfold lim at hc;split at hc<;>lia
   obtain⟨a,b⟩:=Wj h he hl;obtain⟨c,d⟩:=LY he n (k9 size bad e ws) a;exact⟨c,λx m=>d x (b x m)⟩
  .exact⟨h,λx m=>m⟩
end
theorem Vy{bad:Option Int}(h:ks.Pairwise (· < ·))(h1:∀x∈ks,1<=x):lF (endOf size bad) (W size bad ks aZ)/\∀x∈ks,x<endOf size bad->x∈W size bad ks aZ:=by
 have hi:lF (endOf size bad) (kq (endOf size bad) ks):=⟨h.sublist aeY,λx m=>let q:=acL.mp m;⟨h1 x q.1,abd q.2⟩⟩
 obtain⟨a,b⟩:=LY rfl 100 _ hi;exact⟨a,λx m hx=>b x (acL.mpr ⟨m,aa1 hx⟩)⟩
theorem R_{size e aZ:Int}{bad:Option Int}:∀(n:Nat) (ws:List Int),aZ-ws.length<=n->lim e aZ<=(j_ size bad e aZ n ws).length/\((ws.length:Int)<=aZ->((j_ size bad e aZ n ws).length:Int)<=aZ)
 |0,ws,h=>⟨by unfold j_ lim;split<;>lia,id⟩
 |n+1,ws,h=>by
  unfold j_
  by_cases hc:(ws.length:Int)<lim e aZ
  .rw[if_pos hc];have h2:lim e aZ<=aZ:=by unfold lim;split<;>lia
   obtain⟨a,b⟩:=R_ (aZ:=aZ) n (k9 size bad e ws) (by rw[B3];lia);exact⟨a,λ_=>b (by rw[B3];lia)⟩
  .rw[if_neg hc];exact⟨by lia,id⟩
theorem qA(hl:ds.length+1=n)(h:b (A2 N d0 ds)=some (.nx ρ))(h0:ρ[0]? = some (some (d1,.own))):runM n N b d0 ds=some (.aA,d1):=by unfold runM;rw[if_pos hl,h];dsimp only;rw[h0]
noncomputable def hs(h:List Str):D:=.lst (h.map D.str)
def tob(n t:Int)(h:List Str):D:=.ins "Tally" [("need",.int n),("tries",.int t),("heard",hs h)]
theorem QB(h:1<=n/\n<=t/\t<=20):US [.int n,.int t]=some (.bl true):=
 cu rfl (cK (tO (b:=true) (cR rfl (Bk.trans (by rw[aa1 (show(1:Int)<=t by omega),aa1 h.2.2];rfl))) (cR rfl (Bk.trans (by rw[aa1 h.1,aa1 h.2.1];rfl)))))
theorem ZY(h:1<=n/\n<=t/\t<=20):Ay (.ins "Tally" []) [.int n,.int t]=some (.aA,tob n t []):=
 qA rfl (dg (kN (bx (cR (ps:=[(.int n,.sh []),(.int t,.sh [])]) rfl (QB h)))) rfl) rfl
theorem Li:vZ (hs h) (.str w)=some (.int (dH w h)):=by
 show(kF (h.map D.str)).map (λys=>D.int (dH w ys))=_;rw[Qz];rfl
theorem Mj:dH w (h++[v])=dH w h+(if(v==w)=true then 1 else 0):=by
 unfold dH;rw[List.countP_append,List.countP_cons,List.countP_nil,aha]
theorem Ig:d7 (hs h)=some (.int h.length):=by unfold hs;rw[zM,List.length_map]
def word(n t:Int)(h:List Str):Str:=if(dH "yes" h:Int) >= n then "yes" else if(dH "no" h:Int) >= n then "no" else if(h.length:Int) >= t then "unsure" else "more"
theorem Lj:OJ [tob n t h]=some (.str (word n t h)):=by
 have c1:∀w:Str,tV (e2 BZ (e2 vZ (bV "Tally" "heard" (aj 0)) (eC (.str w))) (bV "Tally" "need" (aj 0))) [some (tob n t h,.sh [])]=some (decide ((dH w h:Int) >= n)):=λw=>bx (aK (aK rfl rfl Li) rfl rfl)
 have c2:tV (e2 BZ (e1 d7 (bV "Tally" "heard" (aj 0))) (bV "Tally" "tries" (aj 0))) [some (tob n t h,.sh [])]=some (decide ((h.length:Int) >= t)):=bx (aK (bf rfl Ig) rfl rfl);refine cu rfl ?_;unfold word
 by_cases a1:(dH "yes" h:Int) >= n
 .rw[if_pos a1];exact qe ((c1 _).trans (by rw[aa1 a1])) (eY rfl)
 .rw[if_neg a1];refine dg ((c1 _).trans (by rw[abR a1])) ?_
  by_cases a2:(dH "no" h:Int) >= n
  .rw[if_pos a2];exact qe ((c1 _).trans (by rw[aa1 a2])) (eY rfl)
  .rw[if_neg a2];refine dg ((c1 _).trans (by rw[abR a2])) ?_
   by_cases a3:(h.length:Int) >= t
   .rw[if_pos a3];exact qe (c2.trans (by rw[aa1 a3])) (eY rfl)
   .rw[if_neg a3];exact dg (c2.trans (by rw[abR a3])) rfl
theorem CA:∀h:List Str,aN (h.map D.str)=true
 |[]=>rfl
 |x::h=>by rw[aas];unfold aN;rw[CA h];rfl
theorem Vg(hw:w∈(["yes","no","unsure"]:List Str))(hm:word n t h="more")(hl:h.length<=100):Pd (tob n t h) [.str w]=some (.str (word n t (h++[w])),tob n t (h++[w])):=by
 have m1:∀h:List Str,cD "Tally" "word" OJ (aj 0) aJ [some (tob n t h,.own),some (.str w,.sh [])]=some (.str (word n t h),.own):=λh=>nH rfl rfl rfl Lj
 refine kP rfl (dg ?_ (dg (bx (aK (m1 h) rfl (by rw[hm];rfl))) (sq (ρ':=[some (tob n t (h++[w]),.own),some (.str w,.sh [])]) (iK ?_) ?_)))
 .simp only[abb,aew,ag8] at hw;rcases hw with rfl|rfl|rfl<;>rfl
 .refine(Ak rfl rfl rfl (by rw[CA,List.length_map,aa1 (size_le (by lia))];rfl)).trans ?_;unfold tob hs;rw[ade];rfl
 .unfold uP;rw[m1 (h++[w])];rfl
theorem Pa(hm:word n t h="more"):(h.length:Int)<t:=by
 unfold word at hm
 split at hm
 .exists 82
 .split at hm
  .exists 82
  .split at hm
   .exists 82
   .omega
noncomputable abbrev Ta:=List (List Int×List Str)
structure G where
 w:Int
 h:Int
 n:Int
 t:Int
 C:List Ch
 ln:List Int
 ld:List Int
 gr:List (Key×D)
 ta:Ta
 lk:List (List Int)
 ht:Bool
 gw:List (List Int)
 en:List D
 an:Int
 br:Int
noncomputable def tD(l:List Int):D:=.tup (l.map D.int)
noncomputable def kL(l:List Int):List Key:=l.map Sum.inl
def o_(n t:Int)(ta:Ta):List (List Key×D):=ta.map λp=>(kL p.1,tob n t p.2)
def gF(g:G):List (Str×D):=[("numbers",.tup [.int g.w,.int g.h,.int g.n,.int g.t]),("known",obj g.C),("on_line",iL g.ln),("laid_ones",iL g.ld),("grounds",.bP g.gr),("tallies",.cZ (o_ g.n g.t g.ta)),("looks",.lst (bS g.lk)),("halted",.bl g.ht),("grown",.lst (bS g.gw)),("ended",.lst g.en),("answers",.int g.an),("breaks",.int g.br)]
def gD(g:G):D:=.ins "Gate" (gF g)
theorem IG(h:fo ρ=some (obj C,t))(ha:fa ρ=some (x,t2))(hF:F [obj C,x]=some d)(hm:(mm==("entries":Str))=false:=by decide):cD "Changes" mm F fo (ay fa aJ) ρ=some (d,.own):=
 nH (ps:=[(x,t2)]) h (AD hm) (by rw[aX,ha,yI,BR]) hF
theorem fl(h:fo ρ=some (gD g,t))(e:(gF g).lookup f=some d:=by rfl):bV "Gate" f fo ρ=some (d,k_ t):=by
 unfold bV;rw[h];show(if("Gate":Str)="Gate" then((gF g).lookup f).map _ else none)=_;rw[if_pos rfl,e];rfl
theorem f_(h:fo ρ=some (gD g,t))(hF:F [gD g]=some d)(hm:(gF g).lookup mm=none:=by rfl):cD "Gate" mm F fo aJ ρ=some (d,.own):=nH h hm rfl hF
theorem pM(h:fo ρ=some (gD g,t))(ha:fa ρ=some (x,t2))(hF:F [gD g,x]=some d)(hm:(gF g).lookup mm=none:=by rfl):cD "Gate" mm F fo (ay fa aJ) ρ=some (d,.own):=
 nH (ps:=[(x,t2)]) h hm (by rw[aX,ha,yI,BR]) hF
def bY(gr:List (Key×D))(x:Int):Bool:=(bB gr (Sum.inl x:Key)).isSome
abbrev gZ(g:G)(x:Int):Bool:=bY g.gr x
def BG(g:G)(x:Int):Bool:=!decide (x∈g.ln)&&(!decide (x∈g.ld)&&!gZ g x)
theorem R7(h:f ρ=some (.int x,t))(h2:f2 ρ=some (iL l,t2)):e2 (jP true) f f2 ρ=some (.bl (!decide (x∈l)),.own):=
 aK h h2 (by rw[<- D5];exact AM)
theorem UQ:ZR [gD g,.int x]=some (.bl (BG g x)):=
 cu rfl (cK (tO (R7 rfl (fl rfl)) (tO (R7 rfl (fl rfl)) (aK rfl (fl rfl) rfl))))
def wl(g:G):List Int:=(b_ 1 g.C.length).filter (BG g)
theorem mY:(b_ a n).length=n:=by unfold b_;rw[List.length_map,ahk]
theorem t_(hR:g.C.length<=100):xC [gD g]=some (iL (wl g)):=by
 have hi:pK (eC (.int 1)) (e2 iM (cD "Changes" "many" E4 (bV "Gate" "known" (aj 0)) aJ) (eC (.int 1))) [some (gD g,.sh [])]=some ((b_ 1 g.C.length).map D.int,.own):=by
  rw[AA rfl (aK (nH (fl rfl) rfl rfl (KG g.C)) rfl rfl) (nV (by lia) (by lia)) (nV (by lia) (by lia)),show((g.C.length:Int)+1-1).toNat=g.C.length by lia]
 exact cu rfl (cK (yG hi (by rw[mY];lia) (λx=>rfl) (λx mx=>bx (pM rfl rfl UQ))))
theorem iS:x∈wl g↔(1<=x/\x<=(g.C.length:Int))/\x∉g.ln/\x∉g.ld/\gZ g x=false:=by
 unfold wl;rw[acL,je];unfold BG;simp only[abn,Bool.not_eq_true',decide_eq_false_iff_not];exact and_congr_left λ_=>by lia
theorem pS:Row g.C (wl g):=λx m=>(iS.mp m).1
theorem Cq:(wl g).Pairwise (· < ·):=(zQ 1 _).sublist aeY
theorem IB:(wl g).Nodup:=Cq.imp (λh=>by lia)
theorem Cy:(wl g).length<=g.C.length:=by
 have:=ae5 (BG g) (b_ 1 g.C.length)
 rwa [mY] at this
def gv{κ α:Type}[DecidableEq κ](es:List (κ×α))(k:κ):Option α:=(es.find? λkv=>decide (kv.1=k)).map (·.2)
def gp{κ α:Type}[DecidableEq κ](es:List (κ×α))(k:κ)(d:α):List (κ×α):=if(es.any λkv=>decide (kv.1=k))=true then es.map (λkv=>if kv.1=k then(kv.1,d) else kv) else es++[(k,d)]
theorem Ey[DecidableEq κ]{es:List (κ×α)}:gv (gp es k d) k=some d:=by
 unfold gv gp
 by_cases h:(es.any λkv=>decide (kv.1=k))=true
 .rw[if_pos h]
  induction es with
  |nil=>cases h
  |cons a r ih=>
   rw[aas]
   by_cases z:a.1=k
   .rw[if_pos z,List.find?_cons_of_pos (by simpa using z)];rfl
   .rw[if_neg z,af4 (by simpa using z)];exact ih (by rw[afy,abR z,Bool.false_or] at h;exact h)
 .rw[if_neg h,List.find?_append];have:es.find? (λkv=>decide (kv.1=k))=none:=by
   rw[afE];intro x m e;exact h (ad6.mpr ⟨x,m,e⟩)
  rw[this];simp
theorem Np[DecidableEq κ]{es:List (κ×α)}(h:j≠k):gv (gp es k d) j=gv es j:=by
 unfold gv gp
 congr 1
 split
 .rename_i hh;clear hh
  induction es with
  |nil=>rfl
  |cons a r ih=>
   rw[aas]
   by_cases z:a.1=k
   .rw[if_pos z];have:¬a.1=j:=λe=>h (e.symm.trans z)
    rw[af4 (by simpa using this),af4 (by simpa using this)];exact ih
   .rw[if_neg z]
    by_cases y:a.1=j
    .rw[List.find?_cons_of_pos (by simpa using y),List.find?_cons_of_pos (by simpa using y)]
    .rw[af4 (by simpa using y),af4 (by simpa using y)];exact ih
 .rw[List.find?_append,af4 (by simpa using λe:k=j=>h e.symm)];simp
theorem WH{κ:Type}{k:κ}[DecidableEq κ]{es:List (κ×D)}:(bB (putD es k d) k)=some d:=Ey
theorem Xo{κ:Type}{j k:κ}[DecidableEq κ]{es:List (κ×D)}(h:j≠k):bB (putD es k d) j=bB es j:=Np h
theorem nE{gr:List (Key×D)}:bY (putD gr (Sum.inl x) d) y=(decide (y=x)||bY gr y):=by
 unfold bY
 by_cases h:y=x
 .rw[h,WH,aa1 rfl];rfl
 .rw[Xo (λe=>by injection e with e;exact h e),abR h];rfl
theorem xZ:aN ds=true↔∀d∈ds,aC d=true:=by
 induction ds with
 |nil=>exact⟨λ_ d m=>(nomatch m),λ_=>rfl⟩
 |cons a r ih=>
  unfold aN;rw[abn,ih];exact⟨λh d m=>(abb.mp m).elim (λe=>e ▸ h.1) (h.2 d),λh=>⟨h a aar,λd m=>h d (aaa _ m)⟩⟩
theorem aeC[DecidableEq κ]{es:List (κ×D)}(h:aN (es.map (·.2))=true)(hd:aC d=true):aN ((putD es k d).map (·.2))=true:=by
 rw[xZ] at h ⊢;intro y m;obtain⟨kv,mk,rfl⟩:=abX.mp m;unfold putD at mk
 split at mk
 .obtain⟨x,mx,rfl⟩:=abX.mp mk
  split
  .exact hd
  .exact h _ (abX.mpr ⟨x,mx,rfl⟩)
 .rcases abE.mp mk with mk|mk
  .exact h _ (abX.mpr ⟨kv,mk,rfl⟩)
  .cases aa3.mp mk;exact hd
theorem LX[DecidableEq κ]{es:List (κ×α)}:(gp es k d).map (·.1)=if k∈es.map (·.1) then es.map (·.1) else es.map (·.1)++[k]:=by
 unfold gp
 by_cases h:(es.any λkv=>decide (kv.1=k))=true
 .rw[if_pos h,if_pos (by obtain⟨x,m,e⟩:=ad6.mp h;exact abX.mpr ⟨x,m,abd e⟩),ac4];refine agc λa _=>?_
  show(if a.1=k then(a.1,d) else a).1=a.1
  split<;>rfl
 .rw[if_neg h,if_neg (λm=>by obtain⟨x,m,e⟩:=abX.mp m;exact h (ad6.mpr ⟨x,m,aa1 e⟩)),ade];rfl
theorem Gu[DecidableEq κ]{es:List (κ×α)}(h:(es.map (·.1)).Nodup):((gp es k d).map (·.1)).Nodup:=by
 rw[LX]
 split
 .exact h
 .rename_i hk;exact acP.mpr ⟨h,by simp,λa ma b mb e=>by cases aa3.mp mb;exact hk (e ▸ ma)⟩
structure Gr(n:Nat)(gr:List (Key×D)):Prop where
 im:aN (gr.map (·.2))=true
 nd:(gr.map (·.1)).Nodup
 ks:∀k∈gr.map (·.1),∃x:Int,k=Sum.inl x/\x∈b_ 1 n
 tp:∀p∈gr,(IW p.2).isSome=true
theorem NY[DecidableEq κ]{es:List (κ×α)}(m:q∈gp es k d):q∈es\/q=(k,d):=by
 unfold gp at m
 split at m
 .obtain⟨p,mp,rfl⟩:=abX.mp m
  split
  .rename_i e;exact .inr (by rw[e])
  .exact .inl mp
 .exact(abE.mp m).imp id aa3.mp
theorem Gr.put(h:Gr n gr)(hx:x∈b_ 1 n)(hd:aC d=true)(ht:(IW d).isSome=true:=by rfl):Gr n (putD gr (Sum.inl x) d):=⟨aeC h.im hd,Gu h.nd,λk m=>by
 have m:k∈(gp gr (Sum.inl x) d).map (·.1):=m;rw[LX] at m
 split at m
 .exact h.ks k m
 .rcases abE.mp m with m|m
  .exact h.ks k m
  .exact⟨x,aa3.mp m,hx⟩,λp m=>(NY m).elim (h.tp p) λe=>by rw[e];exact ht⟩
theorem EH(h:bY gr x=false):putD gr (Sum.inl x) d=gr++[(Sum.inl x,d)]:=by
 unfold putD;rw[if_neg];intro q;obtain⟨kv,m,e⟩:=ad6.mp q;unfold bY bB at h;rw[agx] at h;have:=(List.find?_isSome (p:=λkv:Key×D=>decide (kv.1=Sum.inl x))).mpr ⟨kv,m,e⟩;rw[h] at this;cases this
def cnt(gr:List (Key×D)):Nat:=(KW "look" gr).length
theorem Rl:cnt (a++b)=cnt a+cnt b:=by
 unfold cnt KW;rw[List.filter_append,ade,abN]
theorem Ng(h:a <+: b):cnt a<=cnt b:=by
 obtain⟨r,rfl⟩:=h;rw[Rl];lia
noncomputable def vo:List (Key×D)->List Int
 |[]=>[]
 |(.inl x,_)::r=>x::vo r
 |_::r=>vo r
theorem yp:∀{gr},(∀k∈gr.map (·.1),∃x:Int,k=Sum.inl x/\x∈b_ 1 n)->gr.map (·.1)=(vo gr).map Sum.inl/\jz gr=some (vo gr)
 |[],_=>⟨rfl,rfl⟩
 |(k,d)::r,h=>by
  obtain⟨x,e,_⟩:=h k aar;obtain⟨a,b⟩:=yp λk m=>h k (aaa _ m)
  have e:=e;subst e;refine⟨by rw[aas,a];rfl,?_⟩;show(jz r).map _=_;rw[b];rfl
theorem adf{l:List Int}:(l.map (Sum.inl:Int->Key)).Nodup↔l.Nodup:=by
 unfold List.Nodup;rw[afn];exact⟨λh=>h.imp λq e=>q (by rw[e]),λh=>h.imp λq e=>q (ahh e)⟩
theorem Gr.nK{gr:List (Key×D)}(h:Gr n gr):(vo gr).Nodup:=adf.mp ((yp h.ks).1 ▸ h.nd)
theorem Gr.mem{gr:List (Key×D)}(h:Gr n gr):x∈vo gr↔bY gr x=true:=by
 have e:=(yp h.ks).1;unfold bY bB;rw[agx,List.find?_isSome];constructor
 .intro m;have:(Sum.inl x:Key)∈gr.map (·.1):=e ▸ abX.mpr ⟨x,m,rfl⟩;obtain⟨kv,mk,q⟩:=abX.mp this;exact⟨kv,mk,aa1 q⟩
 .rintro⟨kv,mk,q⟩
  have:(Sum.inl x:Key)∈gr.map (·.1):=abX.mpr ⟨kv,mk,abd q⟩;rw[e] at this;obtain⟨y,my,q⟩:=abX.mp this;exact ahh q ▸ my
theorem Gr.bd{gr:List (Key×D)}(h:Gr n gr)(m:bY gr x=true):x∈b_ 1 n:=by
 have:(Sum.inl x:Key)∈gr.map (·.1):=(yp h.ks).1 ▸ abX.mpr ⟨x,h.mem.mpr m,rfl⟩;obtain⟨y,e,q⟩:=h.ks _ this;exact ahh e ▸ q
theorem Gr.len{gr:List (Key×D)}(h:Gr n gr):gr.length<=n:=by
 have:=sub_len h.nK λx m=>h.bd (h.mem.mp m)
 rw[mY] at this;have e:=congrArg List.length (yp h.ks).1;rw[List.length_map,List.length_map] at e
 lia
abbrev qE(ta:Ta)(l:List Int):Option (List Str):=gv ta l
def wd(g:G)(l:List Int):Str:=match qE g.ta l with
 |none=>"more"
 |some h=>word g.n g.t h
theorem vS:∀l:List Int,iI (l.map D.int)=some (kL l)
 |[]=>rfl
 |x::l=>by
  rw[aas];unfold iI;rw[vS l];rfl
theorem qm:∀{a b},kL a=kL b->a=b
 |[],[],_=>rfl
 |[],_::_,e=>by cases e
 |_::_,[],e=>by cases e
 |x::a,y::b,e=>by
  injection e with e1 e2;cases e1;rw[qm e2]
section
variable[DecidableEq κ][DecidableEq OV]{φ:κ->OV}{ψ:α->D}{k:κ}
theorem zB(yO:∀a b,φ a=φ b->a=b):∀es:List (κ×α),bB (es.map λp=>(φ p.1,ψ p.2)) (φ k)=(gv es k).map ψ
 |[]=>rfl
 |p::r=>by
  have ih:=zB yO r;unfold bB gv at ih ⊢;rw[aas,adz,adz,show decide ((φ p.1,ψ p.2).1=φ k)=decide (p.1=k) from agT.mpr ⟨yO _ _,λe=>by rw[<- e]⟩];cases decide (p.1=k) with
  |true=>rfl
  |false=>exact ih
theorem G5(yO:∀a b,φ a=φ b->a=b):putD (es.map λp=>(φ p.1,ψ p.2)) (φ k) (ψ d)=(gp es k d).map λp=>(φ p.1,ψ p.2):=by
 unfold putD gp;rw[agJ,show es.any ((λkv:OV×D=>decide (kv.1=φ k)) ∘ λp=>(φ p.1,ψ p.2))=es.any λp=>decide (p.1=k) from congrArg es.any (funext λp=>agT.mpr ⟨yO _ _,λe=>by rw[<- e]⟩)]
 split
 .rw[ac4,ac4];refine agc λp _=>?_
  simp only[Function.comp]
  by_cases z:p.1=k
  .rw[if_pos (by rw[z]),if_pos z]
  .rw[if_neg λq=>z (yO _ _ q),if_neg z]
 .rw[ade];rfl
end
theorem Ku(ta:Ta):bB (o_ n t ta) (kL l)=(qE ta l).map (tob n t):=zB (λ_ _=>qm) ta
theorem Hx:AX [gD g,tD l]=some (.str (wd g l)):=by
 have v:=Ku (n:=g.n) (t:=g.t) (l:=l) g.ta;have uO:tV (e2 (Hr false) (aj 1) (bV "Gate" "tallies" (aj 0))) [some (gD g,.sh []),some (tD l,.sh [])]=some (bB (o_ g.n g.t g.ta) (kL l)).isSome:=bx (aK rfl (fl rfl) (by
  show(iI (l.map D.int)).map _=_;rw[vS];rfl))
 refine cu rfl (cK ?_);unfold wd;rw[v] at uO;cases e:qE g.ta l with
 |none=>rw[e] at uO;exact PD uO
 |some h=>
  rw[e] at uO v;refine(OZ uO).trans (nH (t:=.sh []) ?_ rfl rfl Lj);unfold AB;rw[fl rfl,show aj 1 [some (gD g,.sh []),some (tD l,.sh [])]=some (tD l,.sh []) from rfl];show(iI (l.map D.int)).bind _=_;rw[vS,acV,v];rfl
noncomputable def cQ(g:G)(p:Nat):List Int:=g.ln++g.ld.take p
theorem f_look{p:Nat}(hp:p<=g.ld.length)(hl:g.ln.length+g.ld.length<=1000):xu [gD g,.int p]=some (tD (cQ g p)):=by
 have hc:lZ (bV "Gate" "laid_ones" (aj 0)) (aj 1) [some (gD g,.sh []),some (.int p,.sh [])]=some (iL (g.ld.take p),.own):=by
  unfold lZ;rw[fl rfl,show aj 1 [some (gD g,.sh []),some (.int p,.sh [])]=some (.int p,.sh []) from rfl];exists 61;rw[if_pos (eO _),BU (by rw[List.length_map];exact hp),<- List.map_take];rfl
 have h1:=agQ (i:=p) (l:=g.ld);exact cu rfl (cK (bf (aK (fl rfl) hc (pP (by rw[aeV];lia))) ug))
noncomputable def bw(s:Str):Bool:=(["no","unsure"]:List Str).any (· == s)
def mT(g:G)(p:Nat):Bool:=bw (wd g (cQ g p))
def dz(g:G):Option Nat:=((List.range g.ld.length).map (· + 1)).find? (mT g)
noncomputable def bD:Option Nat->D
 |none=>.aA
 |some p=>.int p
theorem P4(hl:g.ln.length+g.ld.length<=1000):∀{ps:List Nat} {s1},(∀p∈ps,p<=g.ld.length)->∃pU,
  dh (gN 1) (.sh []) (eX (tV (e2 (uq false) (cD "Gate" "word_of" AX (aj 0) (ay (cD "Gate" "look_of" xu (aj 0) (ay (aj 1) aJ)) aJ)) (eC (.tup ((["no","unsure"]:List Str).map D.str))))) (pW 1) gK) (ps.map λp:Nat=>D.int p) [some (gD g,.sh []),s1]=some (match ps.find? (mT g) with|none=>.nx [some (gD g,.sh []),pU]|some p=>.rt (.int p))
 |[],s1,_=>⟨s1,rfl⟩
 |p::ps,s1,h=>by
  obtain⟨a,e⟩:=P4 hl (λq m=>h q (aaa _ m));have ht:tV (e2 (uq false) (cD "Gate" "word_of" AX (aj 0) (ay (cD "Gate" "look_of" xu (aj 0) (ay (aj 1) aJ)) aJ)) (eC (.tup ((["no","unsure"]:List Str).map D.str)))) [some (gD g,.sh []),some (.int p,.sh [])]=some (mT g p):=
   bx (aK (pM rfl (pM rfl rfl (f_look (h p aar) hl)) Hx) rfl rfl)
  refine⟨a,?_⟩;rw[adz];cases eb:mT g p with
  |true=>
   rw[eb] at ht;exact Cj (aS:=[some (gD g,.sh []),some (.int p,.sh [])]) rfl (by rw[ja,ht];rfl)
  |false=>
   rw[eb] at ht;exact(kR (aS:=[some (gD g,.sh []),some (.int p,.sh [])]) rfl (by rw[ja,ht];rfl)).trans e
theorem Vc(n:Nat):(b_ 1 n).map D.int=((List.range n).map (· + 1)).map λp:Nat=>D.int p:=by
 unfold b_;rw[ac4,ac4];refine agc λi _=>?_
 show D.int (1+(i:Int))=D.int ((i+1:Nat):Int);rw[show(1+(i:Int))=((i+1:Nat):Int) by lia]
theorem uH:p∈(List.range n).map (· + 1)↔1<=p/\p<=n:=by
 rw[abX];exact⟨λ⟨i,m,e⟩=>by have:=ahm.mp m;lia,λh=>⟨p-1,ahm.mpr (by lia),by lia⟩⟩
theorem HN{g:G}(hl:g.ln.length+g.ld.length<=900):Cv [gD g]=some (bD (dz g)):=by
 obtain⟨a,e⟩:=P4 (by lia) (ps:=(List.range g.ld.length).map (· + 1)) (λp m=>(uH.mp m).2);have hi:pK (eC (.int 1)) (e2 iM (e1 d7 (bV "Gate" "laid_ones" (aj 0))) (eC (.int 1))) [some (gD g,.sh []),none]=some (((List.range g.ld.length).map (· + 1)).map λp:Nat=>D.int p,.own):=by
  rw[AA rfl (aK (bf (fl rfl) (by show some (D.int (g.ld.map D.int).length)=_;rw[List.length_map])) rfl rfl) (nV (by lia) (by lia)) (nV (by lia) (by lia)),show((g.ld.length:Int)+1-1).toNat=g.ld.length by lia,Vc]
 refine cu rfl ?_;unfold dz;cases eb:((List.range g.ld.length).map (· + 1)).find? (mT g) with
 |none=>rw[eb] at e;exact sq (vK hi e) rfl
 |some p=>rw[eb] at e;exact eY (Bl hi e)
theorem zc(h:dz g=some p):1<=p/\p<=g.ld.length/\mT g p=true/\∀q,1<=q->q<p->mT g q=false:=by
 obtain⟨h1,as,bs,e,h2⟩:=List.find?_eq_some_iff_append.mp h;have hp:=uH.mp (show p∈(List.range g.ld.length).map (· + 1) from e ▸ aaV _ aar);refine⟨hp.1,hp.2,h1,λq q1 q2=>?_⟩;have so:((List.range g.ld.length).map (· + 1)).Pairwise (· < ·):=afn.mpr (List.pairwise_lt_range.imp λh=>by lia);have mq:q∈(List.range g.ld.length).map (· + 1):=uH.mpr (by lia);rw[e] at so mq;rcases abE.mp mq with m|m
 .simpa using h2 q m
 .rcases abb.mp m with m|m
  .lia
  .have:=(adK.mp (List.pairwise_append.mp so).2.1).1 q m;lia
theorem adD:dz g=none↔∀p,1<=p->p<=g.ld.length->mT g p=false:=by
 unfold dz;rw[afE];exact⟨λh p h1 h2=>by simpa using h p (uH.mpr ⟨h1,h2⟩),λh p m=>by simpa using h p (uH.mp m).1 (uH.mp m).2⟩
theorem Ju:∀a b:List Int,PyData.eqvAll (a.map PyData.int) (b.map PyData.int)=decide (a=b)
 |[],[]=>rfl
 |[],_::_=>rfl
 |_::_,[]=>rfl
 |x::a,y::b=>by
  simp only[aas,PyData.eqvAll,PyData.eqv,Ju a b]
  by_cases h:x=y<;>by_cases k:a=b<;>simp[h,k]
theorem ML(l:List Int):py (tD l)=.tuple (l.map PyData.int):=by unfold tD;unfold py;rw[xR]
theorem afM(l:List Int):dw (tD l)=true:=by
 unfold dw;have c1:fN (tD l)=true:=by unfold tD;unfold fN;exact zY _
 rw[c1,ML];have c2:(PyData.tuple (l.map PyData.int)).canLay0=true:=by simp only[PyData.canLay0];exact AO l
 have c3:(PyData.tuple (l.map PyData.int)).depth<=40:=by simp only[PyData.depth,depthAll_ints];lia
 rw[c2,aa1 c3];rfl
theorem any_rows(l:List Int)(L:List (List Int)):((dO (bS L)).any λy=>PyData.eqv y (py (tD l)))=decide (l∈L):=by
 rw[C6,ML,agJ];have:((λy=>PyData.eqv y (PyData.tuple (l.map PyData.int))) ∘ jH)=λr=>decide (r=l):=funext λr=>by
  simp only[Function.comp,jH,PyData.eqv,Ju]
 rw[this]
 by_cases h:l∈L
 .rw[aa1 h];exact ad6.mpr ⟨l,h,by simp⟩
 .rw[abR h,agd];intro e;obtain⟨y,my,ey⟩:=ad6.mp e;exact h ((abd ey) ▸ my)
theorem AR(neg:Bool)(l:List Int)(L:List (List Int)):vY neg (tD l) (.lst (bS L))=some (.bl (if neg=true then !decide (l∈L) else decide (l∈L))):=by
 show(if(dw (tD l)&&dw (.lst (bS L)))=true then some (D.bl (if neg=true then !(dO (bS L)).any λy=>PyData.eqv y (py (tD l)) else(dO (bS L)).any λy=>PyData.eqv y (py (tD l)))) else none)=_;rw[afM,Q7,any_rows];rfl
def kp(g:G)(l:List Int):Bool:=decide (l∈g.lk)&&(wd g l == "more")
theorem XZ:afs [gD g,tD l]=some (.bl (kp g l)):=
 cu rfl (cK (tO (aK rfl (fl rfl) (AR false l g.lk)) (aK (pM rfl rfl Hx) rfl rfl)))
def iT(g:G):List Int:=(b_ 1 g.ld.length).filter λx=>kp g (cQ g x.toNat)
def tR(g:G):Option Int:=(dz g).map λp:Nat=>(p:Int)
def vJ(g:G):List Int:=W g.ld.length (tR g) (iT g) g.h
def Co(g:G):List (List Int):=(vJ g).map λp=>cQ g p.toNat
theorem af7(o:Option Nat):bD o=jF (o.map λp:Nat=>(p:Int)):=by cases o<;>rfl
theorem se:(iT g).Pairwise (· < ·)/\(∀x∈iT g,1<=x/\x<=g.ld.length)/\(iT g).length<=g.ld.length:=by
 refine⟨(zQ 1 _).sublist aeY,λx m=>by have:=je.mp (acL.mp m).1;lia,?_⟩;have:=ae5 (λx=>kp g (cQ g x.toNat)) (b_ 1 g.ld.length)
 rwa [mY] at this
def eo(g:G):Int:=endOf g.ld.length (tR g)
theorem RB:lF (eo g) (vJ g)/\(∀p∈iT g,p<eo g->p∈vJ g):=
 Vy se.1 (λx m=>(se.2.1 x m).1)
theorem Fz:1<=eo g/\eo g<=g.ld.length+1:=by
 unfold eo tR;cases e:dz g with
 |none=>show 1<=(g.ld.length:Int)+1/\(g.ld.length:Int)+1<=_;lia
 |some p=>have:=zc e;show 1<=(p:Int)/\(p:Int)<=_;lia
theorem ab6(hl:g.ln.length+g.ld.length<=900)(h6:g.ld.length<64)(hh:g.h<=60):W_ [gD g]=some (.lst (bS (Co g))):=by
 have hi:pK (eC (.int 1)) (e2 iM (aj 1) (eC (.int 1))) [some (gD g,.sh []),some (.int g.ld.length,.own),none]=some ((b_ 1 g.ld.length).map D.int,.own):=by
  rw[AA rfl rfl (nV (by lia) (by lia)) (nV (by lia) (by lia)),show((g.ld.length:Int)+1-1).toNat=g.ld.length by lia]
 have look:∀{x:Int},1<=x->x<=g.ld.length->cD "Gate" "look_of" xu (aj 1) (ay (aj 0) aJ) [some (.int x,.sh []),some (gD g,.sh [])]=some (tD (cQ g x.toNat),.own):=λ{x} h1 h2=>
  pM rfl rfl (by
   have:=f_look (g:=g) (p:=x.toNat) (by lia) (by lia)
   rwa [show((x.toNat:Nat):Int)=x by lia] at this)
 refine cu rfl (kU (bf (fl rfl) (by show some (D.int (g.ld.map D.int).length)=_;rw[List.length_map])) (kU (yG hi (by rw[mY];lia) (λx=>rfl) (λx mx=>by
  have hx:=je.mp mx;exact bx (pM rfl (look (by lia) (by lia)) XZ))) (cK ?_)))
 have hw:cO E8 (ay (aj 1) (ay (cD "Gate" "bad" Cv (aj 0) aJ) (ay (aj 2) (ay (e2 dZ (bV "Gate" "numbers" (aj 0)) (eC (.int 1))) aJ)))) [some (gD g,.sh []),some (.int g.ld.length,.own),some (iL (iT g),.own)]=some (iL (vJ g),.own):=
  cR (by
   rw[aX,aX,f_ rfl (HN hl)];rfl) (by
   have:=Wh (size:=g.ld.length) (bad:=tR g) (ks:=iT g) hh (by have:=se (g:=g).2.2;lia);simp only[aas,ag9];rw[af7];exact this)
 have hc:=jQ (js:=[none,some 0]) (g:=gN 0) (tt:=um) (k:=λd=>match d with | .int p=>some (tD (cQ g p.toNat)) | _=>none) (gW hw) (by rw[List.length_map];exact size_le (by have:=UZ (size:=g.ld.length) (bad:=tR g) (ks:=iT g) hh (by have:=se (g:=g).2.2;lia);show(W _ _ _ _).length<=_;lia)) (λd m=>by
  exists 78;have:=(RB).1.bd x mx;have:=Fz (g:=g);exact qQ rfl rfl (look (by lia) (by lia)))
 rw[aeN] at hc;have e:(vJ g).filterMap ((λd=>match d with|.int p=>some (tD (cQ g p.toNat))|_=>none) ∘ D.int)=bS (Co g):=by
  unfold Co bS;rw[ac4];exact pH (λp:Int=>tD (cQ g p.toNat)) _
 rw[e] at hc;exact hc
theorem oW(h:fv ρ=some (d,t))(h0:ρ[0]? = some (some (gD g,.own)))(ho:(jT t||aC d)=true)(e:dR f d (gF g)=gF g'):jn (xr 0 "Gate" f fv) ρ=some (.nx (bT ρ 0 (gD g'))):=by
 refine iK ?_;unfold xr;rw[h,h0];show(if("Gate":Str)="Gate"/\(gF g).length<1000/\(jT t||aC d)=true then some (Out.nx (bT ρ 0 (.ins "Gate" (dR f d (gF g))))) else none)=_;rw[if_pos ⟨rfl,by show 12<1000;decide,ho⟩,e];rfl
theorem xo(h0:ρ[0]? = some (some (gD g,.own)))(h:F (gD g) []=some (r,gD g'))(hm:(gF g).lookup m=none:=by rfl):xO 0 "Gate" m F aJ ρ=some (r,bT ρ 0 (gD g')):=by
 unfold xO;rw[h0];show(if("Gate":Str)="Gate"/\(gF g).lookup m=none/\apart 0 []=true then(F (gD g) []).map _ else none)=_;rw[if_pos ⟨rfl,hm,rfl⟩,h];rfl
theorem z7(h:fv ρ=some (d,t))(hk:fk ρ=some (.int x,t2))(h0:ρ[0]? = some (some (gD g,.own)))(hi:aC d=true)(hG:aN (g.gr.map (·.2))=true)(hl:g.gr.length<=100):uw 0 "Gate" "grounds" fk fv ρ=some (.nx (bT ρ 0 (gD { g with gr:=putD g.gr (Sum.inl x) d }))):=by
 unfold uw;rw[h,h0,hk];show(if("Gate":Str)="Gate" then(if(aC d&&aN (g.gr.map (·.2))&&decide (g.gr.length<sizeLine))=true then some (Out.nx (bT ρ 0 (.ins "Gate" (dR "grounds" (.bP (putD g.gr (Sum.inl x) d)) (gF g))))) else none) else none)=_;rw[if_pos rfl,hi,hG,aa1 (size_le (by lia)),if_pos (show(true&&true&&true)=true from rfl)];rfl
theorem Ho(h:f ρ=some (d,t)):jn (dG i f) ρ=some (.nx (iB ρ i d t)):=iK (by unfold dG;rw[h])
theorem fL(h:tf ρ=some true)(h2:sf ρ=r):eX tf sf sg ρ=r:=by rw[ja,h];exact h2
theorem fV(h:tf ρ=some false)(h2:sg ρ=r):eX tf sf sg ρ=r:=by rw[ja,h];exact h2
theorem Pf:dU ((x::r).map D.int) 0=some (.int x):=by
 unfold dU lI;rw[if_pos (by omega),if_pos (by rw[List.length_map,acf];omega)];rfl
def gone(C:List Ch)(gr:List (Key×D))(x:Int):List Int:=(lean (sec C) x).filter (bY gr)
def dN(C:List Ch)(gr:List (Key×D))(x:Int):List (Key×D):=match gone C gr x with
 |[]=>gr
 |y::_=>putD gr (Sum.inl x) (.tup [.str "leans",.int y])
theorem EO{g:G}(gc:GoodC g.C):∀{l} {gr} {s1 s2},Row g.C l->Gr g.C.length gr->∃pU Hg,dh (gN 1) (.sh []) (b7 (dG 2 (iX [none,some 0] (iC (cD "Changes" "leans_of" Hz (bV "Gate" "known" (aj 0)) (ay (aj 1) aJ))) (gN 0) (tV (e2 (pN false) (aj 0) (bV "Gate" "grounds" (aj 1)))) (aj 0))) (eX (sM (aj 2)) (uw 0 "Gate" "grounds" (aj 1) (mD (ay (eC (.str "leans")) (ay (e2 dZ (aj 2) (eC (.int 0))) aJ)))) gK)) (l.map D.int) [some (gD { g with gr:=gr },.own),s1,s2]=some (.nx [some (gD { g with gr:=l.foldl (dN g.C) gr },.own),pU,Hg])
 |[],gr,s1,s2,_,_=>⟨s1,s2,rfl⟩
 |x::l,gr,s1,s2,h,k=>by
  have hx:=h x aar;have hc:iX [none,some 0] (iC (cD "Changes" "leans_of" Hz (bV "Gate" "known" (aj 0)) (ay (aj 1) aJ))) (gN 0) (tV (e2 (pN false) (aj 0) (bV "Gate" "grounds" (aj 1)))) (aj 0) [some (gD { g with gr:=gr },.own),some (.int x,.sh []),s2]=some (iL (gone g.C gr x),.own):=
   yG (gW (IG (fl rfl) rfl (Qd hx.1 hx.2))) (by have:=gc.few x;lia) (λy=>rfl) (λy _=>bx (aK rfl (fl rfl) rfl))
  cases e:gone g.C gr x with
  |nil=>
   obtain⟨a,b,ih⟩:=EO gc (λy m=>h y (aaa _ m)) k;refine⟨a,b,(kR rfl (kU (e ▸ hc) rfl)).trans (ih.trans ?_)⟩;rw[aeF,show dN g.C gr x=gr by unfold dN;rw[e]]
  |cons y r=>
   have k':Gr g.C.length (dN g.C gr x):=by unfold dN;rw[e];exact k.put (je.mpr (by lia)) rfl
   obtain⟨a,b,ih⟩:=EO gc (λy m=>h y (aaa _ m)) k';refine⟨a,b,(kR rfl (kU (e ▸ hc) (fL rfl ((z7 (d:=.tup [.str "leans",.int y]) (t:=.own) ?_ rfl rfl rfl k.im (by have:=k.len;have:=gc.ln;show gr.length<=100;lia)).trans ?_)))).trans ih⟩
   .rw[rT,aX,aX,aK rfl rfl (vD Pf rfl)];rfl
   .unfold dN;rw[e];rfl
def gX(g:G):G:={ g with gr:=(wl g).foldl (dN g.C) g.gr }
theorem XG(gc:GoodC g.C)(k:Gr g.C.length g.gr):Cs (gD g) []=some (.aA,gD (gX g)):=by
 obtain⟨a,b,e⟩:=EO gc pS k;exact qA rfl (iK (vK (gW (f_ rfl (t_ (by have:=gc.ln;lia)))) e)) rfl
theorem zX:∀{l:List Int} {gr},Gr n gr->(∀x∈l,x∈b_ 1 n)->Gr n (l.foldl (dN C) gr)/\(∀x,bY gr x=true->bY (l.foldl (dN C) gr) x=true)/\(∀x,bY (l.foldl (dN C) gr) x=true->bY gr x=true\/x∈l)
 |[],gr,k,_=>⟨k,λ_ h=>h,λ_ h=>.inl h⟩
 |x::l,gr,k,h=>by
  have k1:Gr n (dN C gr x)/\(∀y,bY gr y=true->bY (dN C gr x) y=true)/\∀y,bY (dN C gr x) y=true->bY gr y=true\/y=x:=by
   unfold dN
   split
   .exact⟨k,λ_ h=>h,λ_ h=>.inl h⟩
   .refine⟨k.put (h x aar) rfl,λy q=>by rw[nE,q,Bool.or_true],λy q=>?_⟩;rw[nE,ahf,ahl] at q;exact q.symm
  obtain⟨a,b,c⟩:=zX k1.1 λy m=>h y (aaa _ m)
  refine⟨a,λy q=>b y (k1.2.1 y q),λy q=>?_⟩;rcases c y q with q|q
  .exact(k1.2.2 y q).imp id λe=>by rw[e];exact aar
  .exact .inr (aaa _ q)
theorem RI:∀{l:List Int} {gr},l.Nodup->(∀x∈l,bY gr x=false)->gr <+: l.foldl (dN C) gr
 |[],gr,_,_=>agv _
 |x::l,gr,nd,h=>by
  obtain⟨n1,n2⟩:=abV.mp nd;have h1:gr <+: dN C gr x/\∀y∈l,bY (dN C gr x) y=false:=by
   unfold dN
   split
   .exact⟨agv _,λy m=>h y (aaa _ m)⟩
   .refine⟨by rw[EH (h x aar)];exact agW _ _,λy m=>?_⟩;rw[nE,h y (aaa _ m),abR (show ¬y=x from λe=>n1 (e ▸ m))];rfl
  exact h1.1.trans (RI n2 h1.2)
theorem EZ(bd:∀m x,1<=m->m<=(C.length:Int)->x∈lean (sec C) m->1<=x/\x<m):∀{l:List Int} {gr},l.Pairwise (· < ·)->Row C l->Gr C.length gr->∀x∈l,bY (l.foldl (dN C) gr) x=false->∀y∈lean (sec C) x,bY (l.foldl (dN C) gr) y=false
 |[],gr,_,_,_,x,m,_=>nomatch m
 |z::l,gr,hp,hr,k,x,m,hx=>λy my=>by
  obtain⟨D4,tM⟩:=adK.mp hp;have hz:=hr z aar;have kz:Gr C.length (dN C gr z):=(zX (l:=[z]) k λx m=>by rw[aa3.mp m];exact je.mpr (by lia)).1;have rl:∀x∈l,x∈b_ 1 C.length:=λx m=>by have:=hr x (aaa _ m);exact je.mpr (by lia)
  obtain⟨_,b,c⟩:=zX kz rl;rcases abb.mp m with rfl|m
  .cases e:bY ((x::l).foldl (dN C) gr) y with
   |false=>rfl
   |true=>
    have yz:=(bd x y hz.1 hz.2 my).2;have jC:bY (dN C gr x) x=false:=by
     cases q:bY (dN C gr x) x with
     |false=>rfl
     |true=>rw[show bY ((x::l).foldl (dN C) gr) x=true from b x q] at hx;cases hx
    have e0:bY (dN C gr x) y=true:=by
     rcases c y e with q|q
     .exact q
     .have:=D4 y q;lia
    unfold dN at jC e0
    split at jC
    .rename_i q;rw[q] at e0;have:=List.filter_eq_nil_iff.mp q y my;exact absurd e0 this
    .rw[nE,aa1 rfl] at jC;cases jC
  .exact EZ bd tM (λx m=>hr x (aaa _ m)) kz x m hx y my
theorem lay_ints(l:List Int):dw (iL l)=true:=by
 unfold dw;have c1:fN (iL l)=true:=by unfold iL;unfold fN;exact zY _
 have c0:py (iL l)=.list (l.map PyData.int):=by unfold iL;unfold py;rw[xR]
 rw[c1,c0];have c2:(PyData.list (l.map PyData.int)).canLay0=true:=by simp only[PyData.canLay0];exact AO l
 have c3:(PyData.list (l.map PyData.int)).depth<=40:=by simp only[PyData.depth,depthAll_ints];lia
 rw[c2,aa1 c3];rfl
theorem abZ(a b:List Int):PyData.eqv (py (iL a)) (py (iL b))=decide (a=b):=by
 have c:∀l,py (iL l)=.list (l.map PyData.int):=λl=>by unfold iL;unfold py;rw[xR]
 rw[c,c];simp only[PyData.eqv,Ju]
theorem RP(a b:List Int):mW (iL a) (iL b)=some (.bl (!decide (a=b))):=by
 unfold mW;rw[lay_ints,lay_ints,abZ];rfl
structure Gd(g:G):Prop where
 w1:1<=g.w/\g.w<=16
 h1:1<=g.h/\g.h<=8
 nt:1<=g.n/\g.n<=g.t/\g.t<=20
 gc:GoodC g.C
 row:Row g.C (g.ln++g.ld)
 nd:(g.ln++g.ld).Nodup
 su:(g.ld.length:Int)<=g.w
 j8:∀x∈g.ln++g.ld,gZ g x=false
 gr:Gr g.C.length g.gr
 run:∃v,f6 [] (gb g.C (g.ln++g.ld))=some v
theorem Gd.len(k:Gd g):g.ln.length+g.ld.length<=60:=by
 have:=sub_len k.nd λx m=>je.mpr (show 1<=x/\x<1+(g.C.length:Int) by have:=k.row x m;lia)
 rw[mY,abN] at this;have:=k.gc.ln
 lia
theorem P_:∀{a b} {v},(∃w,f6 v (gb C (a++b))=some w)->∃w,f6 v (gb C a)=some w
 |[],b,v,_=>⟨v,rfl⟩
 |x::a,b,v,⟨w,h⟩=>by
  have h:(if bad v (dM C x)=[] then f6 (eS v (dM C x)) (gb C (a++b)) else none)=some w:=h;show ∃w,(if bad v (dM C x)=[] then f6 (eS v (dM C x)) (gb C a) else none)=some w
  by_cases hb:bad v (dM C x)=[]
  .rw[if_pos hb] at h ⊢;exact P_ ⟨w,h⟩
  .rw[if_neg hb] at h;cases h
theorem Gd.cut(k:Gd g){gr:List (Key×D)}(hp:ld <+: g.ld)(hg:Gr g.C.length gr)(hd:∀x∈g.ln++ld,bY gr x=false):Gd { g with ld:=ld,gr:=gr }:=by
 obtain⟨r,e⟩:=hp;have ea:g.ln++g.ld=(g.ln++ld)++r:=by rw[<- e,afi]
 refine⟨k.w1,k.h1,k.nt,k.gc,λx m=>k.row x (by rw[ea];exact abq _ m),?_,?_,hd,hg,P_ (by rw[<- ea];exact k.run)⟩
 .have:=k.nd;rw[ea] at this;exact(acP.mp this).1
 .have:=k.su;rw[<- e,abN] at this
  lia
theorem ne1:mW (bD o) (.int 1)=some (.bl (!decide (o=some 1))):=by
 cases o with
 |none=>kernel_rfl
 |some p=>
  show(if(dw (.int p)&&dw (.int 1))=true then some (D.bl (!PyData.eqv (py (.int p)) (py (.int 1)))) else none)=_;have e:dw (.int (p:Int))=true:=by unfold dw;simp[fN,py,PyData.canLay0,PyData.depth]
  have e1:dw (.int 1)=true:=by unfold dw;simp[fN,py,PyData.canLay0,PyData.depth]
  rw[e,e1];simp only[py,PyData.eqv,afH,if_true]
  by_cases h:p=1
  .subst h;rfl
  .rw[abR (λz=>h (ab1 z)),show(((p:Int)==1)=false) from ado.mpr (by lia)]
theorem QG(hl:g.ln.length+g.ld.length<=900):tV (e2 mW (cD "Gate" "bad" Cv (aj 0) aJ) (eC (.int 1))) (some (gD g,.own)::s)=some (!decide (dz g=some 1)):=
 bx (aK (f_ rfl (HN hl)) rfl ne1)
theorem OP(hl:g.ln.length+g.ld.length<=900)(h:dz g≠some 1):MD (gD g) []=some (.bl false,gD g):=by
 have ht:=QG hl (s:=[none]);rw[abR h] at ht;exact kP rfl (qe ht (eY rfl))
def nA(g:G):D:=.tup [.str "look",tD g.ln,tD (cQ g 1),.str (wd g (cQ g 1))]
theorem KS:aC (nA g)=true:=by
 unfold nA tD;simp only[aC,aN,eO,afH]
def aeU(g:G)(x:Int):G:={ g with ld:=[],gr:=putD g.gr (Sum.inl x) (nA g) }
theorem Rt(k:Gd g)(h:dz g=some 1)(hx:g.ld=x::r):MD (gD g) []=some (.bl true,gD (aeU g x)):=by
 have hl:=k.len;have ht:=QG (g:=g) (by lia) (s:=[none]);rw[aa1 h] at ht;have h1:cD "Gate" "look_of" xu (aj 0) (ay (eC (.int 1)) aJ) [some (gD g,.own),none]=some (tD (cQ g 1),.own):=pM rfl rfl (f_look (by rw[hx,acf];lia) (by lia));have e1:∃t,mD (ay (eC (.str "look")) (ay (e1 yy (bV "Gate" "on_line" (aj 0))) (ay (aj 1) (ay (cD "Gate" "word_of" AX (aj 0) (ay (aj 1) aJ)) aJ)))) [some (gD g,.own),some (tD (cQ g 1),.own)]=some (nA g,t):=by
  rw[rT,aX,aX,aX,aX,bf (fl rfl) ug,pM rfl rfl Hx];exact⟨_,rfl⟩
 obtain⟨t,e1⟩:=e1;exact kP rfl (dg ht (sq (Ho h1) (sq (iK (z7 e1 (aK (fl rfl) rfl (vD (by rw[hx];exact Pf) rfl)) rfl KS k.gr.im (by have:=k.gr.len;have:=k.gc.ln;lia))) (sq (oW rfl rfl rfl rfl) rfl))))
theorem QU:Ev.sM (bV "Gate" "laid_ones" (aj 0)) (some (gD g,.own)::s)=some (!g.ld.isEmpty):=by
 unfold Ev.sM;rw[fl rfl];cases g.ld<;>rfl
theorem Mm(h:g.ld≠[]):F9 (gD g) []=some (.bl false,gD g):=by
 have ht:=QU (g:=g) (s:=[none,none,none]);rw[show g.ld.isEmpty=false from List.isEmpty_eq_false_iff.mpr h] at ht;exact kP rfl (qe ht (eY rfl))
theorem Ji(l:List Int):aC (wz l)=true:=by cases l<;>rfl
def kc(C:List Ch)(u:iu)(gr:List (Key×D))(x:Int):List (Key×D):=putD gr (Sum.inl x) (.tup [.str "unfit",wz (bad u (dM C x))])
theorem Zu(g:GoodC C)(x:Int):ND [dS (nz v),eL (dM C x)]=some (wz (bad (jN (nz v)) (dM C x))):=
 cu rfl (cK (cR (ps:=[(bK (jN (nz v)),.own),(eL (dM C x),.sh [])]) (by rw[aX,aX,bf rfl QM];rfl) (JT (g.ed x).ed (by lia) D.lst rfl)))
theorem Pr{g:G}(gc:GoodC g.C):∀{l} {gr} {s3},Row g.C l->Gr g.C.length gr->∃xg,dh (gN 3) (.sh [1]) (uw 0 "Gate" "grounds" (aj 3) (mD (ay (eC (.str "unfit")) (ay (cO ND (ay (aj 2) (ay (cD "Changes" "edits_of" Aj (bV "Gate" "known" (aj 0)) (ay (aj 3) aJ)) aJ))) aJ)))) (l.map D.int) [some (gD { g with gr:=gr },.own),some (iL N,.lk),some (dS (nz v),.own),s3]=some (.nx [some (gD { g with gr:=l.foldl (kc g.C (jN (nz v))) gr },.own),some (iL N,.lk),some (dS (nz v),.own),xg])
 |[],gr,s3,_,_=>⟨s3,rfl⟩
 |x::l,gr,s3,h,k=>by
  have hx:=h x aar;obtain⟨a,ih⟩:=Pr gc (gr:=kc g.C (jN (nz v)) gr x) (λy m=>h y (aaa _ m)) (k.put (je.mpr (by lia)) (by simp only[aC,aN,Ji,afH]));refine⟨a,(kR (aS:=[some (gD { g with gr:=gr },.own),some (iL N,.lk),some (dS (nz v),.own),some (.int x,.sh [1])]) rfl ((z7 (g:={ g with gr:=gr }) (t:=.own) ?_ rfl rfl (by simp only[aC,aN,Ji,afH]) k.im (by have:=k.len;have:=gc.ln;show gr.length<=100;lia)).trans rfl)).trans ih⟩;rw[rT,aX,aX,cR (by rw[aX,aX,IG (fl rfl) rfl (CD hx.1 hx.2)];rfl) (Zu gc x)];rfl
def aY(g:G):List Int:=(wl g).filter (nG g.C g.ln)
theorem abS(k:Gd g)(h:g.ld=[]):∃u,F9 (gD g) []=some (.bl (!decide (aY g=[])),gD { g with gr:=(aY g).foldl (kc g.C u) g.gr }):=by
 have hl:=k.len;have gl:=k.gc.ln;have ht:=QU (g:=g) (s:=[none,none,none]);rw[h] at ht;obtain⟨v,hv⟩:=k.run;rw[h,acE] at hv;have hw:=Cy (g:=g);have h1:cO AZ (ay (bV "Gate" "known" (aj 0)) (ay (bV "Gate" "on_line" (aj 0)) (ay (jS aJ) (ay (cD "Gate" "waiting" xC (aj 0) aJ) aJ)))) [some (gD g,.own),none,none,none]=some (iL (aY g),.own):=
  cR (by rw[aX,aX,aX,aX,f_ rfl (t_ (by lia))];rfl) (by
   have:=Lb k.gc (a:=g.ln) (b:=[]) (by simp;lia) pS (by lia);rw[acE] at this;exact this)
 have h2:cD "Gate" "sheet" afU (aj 0) aJ [some (gD g,.own),some (iL (aY g),.own),none,none]=some (dS (nz v),.own):=f_ rfl (cu rfl (cK (cR rfl (JG k.gc (λx m=>k.row x (abq _ m)) (by lia) hv).1)));obtain⟨s3,lp⟩:=Pr k.gc (λx m=>pS x (acL.mp m).1) k.gr;refine⟨jN (nz v),kP rfl (dg ht (sq (Ho h1) (sq (Ho h2) (sq (ρ':=[some (gD { g with gr:=(aY g).foldl (kc g.C (jN (nz v))) g.gr },.own),some (iL (aY g),.own),some (dS (nz v),.own),s3]) (iK ((vz (gW rfl) lp).trans rfl)) ?_))))⟩;unfold uP;have:e2 mW (aj 1) (jS aJ) [some (gD { g with gr:=(aY g).foldl (kc g.C (jN (nz v))) g.gr },.own),some (iL (aY g),.own),some (dS (nz v),.own),s3]=some (.bl (!decide (aY g=[])),.own):=aK (d2:=iL []) rfl rfl (RP _ _);rw[this];rfl
theorem WW(hl:g.ln.length+g.ld.length<=900):tV (e2 gR (cD "Gate" "bad" Cv (aj 0) aJ) (eC .aA)) (some (gD g,.own)::s)=some (dz g).isNone:=
 bx (aK (f_ rfl (HN hl)) rfl (by cases dz g<;>rfl))
theorem Ca(h:f ρ=some (r,[some (gD g',.own)])):vA f [0] ρ=some (.rt (.tup [r,gD g'])):=by
 unfold vA;rw[h];rfl
theorem O5(h:f ρ=some (.bl false,ρ'))(h2:f2 ρ'=some (.bl b,bh)):vL f f2 ρ=some (.bl b,bh):=by
 unfold vL;rw[h];dsimp only;rw[h2]
theorem RW(h:f ρ=some (.bl true,ρ')):vL f f2 ρ=some (.bl true,ρ'):=by
 unfold vL;rw[h]
def Lf(g:G):Prop:=∀x∈wl g,∀y∈lean (sec g.C) x,gZ g y=false
def Full(g:G):Prop:=g.w<=(g.ld.length:Int)\/∀x∈wl g,∀v,f6 [] (gb g.C (g.ln++g.ld))=some v->nG g.C (g.ln++g.ld) x=true->ji g.C v x=false
structure Fin(g:G):Prop where
 lf:Lf g
 go:g.ht=false->dz g≠some 1/\(g.ld=[]->wl g=[])/\(dz g=none->Full g)
theorem af9(k:Gd g)(lf:Lf g)(hd:g.ld=[])(h:aY g=[]):wl g=[]:=by
 cases e:wl g with
 |nil=>rfl
 |cons x r=>
  have mx:=e ▸ aar;have hx:=iS.mp mx;have:=List.filter_eq_nil_iff.mp h x mx;refine absurd (ada.mpr λy my=>aa1 ?_) this;have hy:=k.gc.bd x y hx.1.1 hx.1.2 my;refine age λn=>?_
  have Ob:=iS.mpr ⟨⟨hy.1,by omega⟩,n,(by rw[hd];exact aew),lf x mx y my⟩;rw[e] at Ob;have:=Cq (g:=g);rw[e] at this;rcases abb.mp Ob with q|q
  .omega
  .have:=(adK.mp this).1 y q;omega
theorem P6:∀{l:List Int} {gr},Gr n gr->(∀x∈l,x∈b_ 1 n)->Gr n (l.foldl (kc C u) gr)/\∀y,bY (l.foldl (kc C u) gr) y=(decide (y∈l)||bY gr y)
 |[],gr,k,_=>⟨k,λy=>rfl⟩
 |x::l,gr,k,h=>by
  obtain⟨a,b⟩:=P6 (gr:=kc C u gr x) (k.put (h x aar) (by simp only[aC,aN,Ji,afH])) λy m=>h y (aaa _ m)
  refine⟨a,λy=>?_⟩;rw[aeF,b];unfold kc;rw[nE,<- Bool.or_assoc]
  congr 1
  rw[<- Bool.decide_or];exact agT.mpr (by rw[abb];exact or_comm)
theorem R5:∀{l:List Int} {gr},l.Nodup->(∀x∈l,bY gr x=false)->gr <+: l.foldl (kc C u) gr
 |[],gr,_,_=>agv _
 |x::l,gr,nd,h=>by
  obtain⟨n1,n2⟩:=abV.mp nd;have h1:gr <+: kc C u gr x/\∀y∈l,bY (kc C u gr x) y=false:=by
   unfold kc;refine⟨by rw[EH (h x aar)];exact agW _ _,λy m=>?_⟩;rw[nE,h y (aaa _ m),abR (show ¬y=x from λe=>n1 (e ▸ m))];rfl
  exact h1.1.trans (R5 n2 h1.2)
noncomputable def g9(g:G)(ex:List Int):G:={ g with ld:=g.ld++ex }
structure Up(g:G)(ld:List Int)(gr:List (Key×D)):Prop where
 gd:Gd { g with ld:=ld,gr:=gr }
 mo:∀x,bY g.gr x=true->bY gr x=true
 pf:g.gr <+: gr
abbrev o8(g:G)(gr:List (Key×D)):Prop:=∃x,bY gr x=true/\gZ g x=false
theorem Lq(k:Gd g)(hx:g.ld=x::r):Up g [] (putD g.gr (Sum.inl x) (nA g))/\o8 g (putD g.gr (Sum.inl x) (nA g))/\cnt g.gr+1<=cnt (putD g.gr (Sum.inl x) (nA g)):=by
 have mx:=hx ▸ aar;have rx:=k.row x (aaV _ mx);have nw:putD g.gr (Sum.inl x) (nA g)=g.gr++[(Sum.inl x,nA g)]:=EH (k.j8 x (aaV _ mx));refine⟨⟨k.cut List.nil_prefix (k.gr.put (je.mpr (by lia)) KS) λy m=>?_,(λy q=>by rw[nE,q,Bool.or_true]),by rw[nw];exact agW _ _⟩,⟨x,by rw[nE,aa1 rfl];rfl,k.j8 x (aaV _ mx)⟩,by rw[nw,Rl];exact abT _⟩;rw[acE] at m;rw[nE,show bY g.gr y=false from k.j8 y (abq _ m),abR λe=>(acP.mp k.nd).2.2 y m x mx e];rfl
theorem adt(k:Gd g)(lf:Lf g):∃b ld gr,B_ (gD g) []=some (.bl b,gD { g with ld:=ld,gr:=gr })/\Up g ld gr/\(b=true->o8 g gr)/\(b=false->gr=g.gr/\(g.ht=false->Fin { g with ld:=ld,gr:=gr })/\(dz g≠none->ld=g.ld)/\(Full g->ld=g.ld))/\(Fin g->g.ht=false->b=false)/\(∀p,dz g=some p->p≠1->b=false)/\(dz g=some 1->cnt g.gr+1<=cnt gr):=by
 have hl:=k.len;have gl:=k.gc.ln;have ht:=WW (g:=g) (by lia) (s:=[]);cases hb:dz g with
 |some p=>
  rw[hb] at ht;have hm:=zc hb;have r_:g.ld≠[]:=λe=>by rw[e] at hm;simp at hm;lia
  by_cases hp:p=1
  .subst hp;obtain⟨x,r,ex⟩:=agZ r_;obtain⟨u,n,cn⟩:=Lq k ex;exact⟨true,[],_,kP rfl (dg ht (Ca (RW (xo rfl (Rt k hb ex))))),u,(λ_=>n),(λe=>nomatch e),(λf h=>absurd hb (f.go h).1),(λp e np=>absurd (ab1 e).symm np),λ_=>cn⟩
  .have hn:dz g≠some 1:=by rw[hb];exact λz=>hp (ab1 z)
   exact⟨false,g.ld,g.gr,kP rfl (dg ht (Ca (O5 (xo rfl (OP (by lia) hn)) (xo rfl (Mm r_))))),⟨k,λ_ q=>q,agv _⟩,(λe=>nomatch e),(λ_=>⟨rfl,λ_=>⟨lf,λ_=>⟨hn,λe=>absurd e r_,λe=>by rw[show dz g=none from e] at hb;cases hb⟩⟩,λ_=>rfl,λ_=>rfl⟩),(λ_ _=>rfl),(λ_ _ _=>rfl),λe=>absurd (ab1 e) hp⟩
 |none=>
  rw[hb] at ht;obtain⟨v,hv⟩:=k.run;have Wv:=Cy (g:=g);obtain⟨ex,hf,F⟩:=X0 k.gc k.row pS IB (by lia) (by lia) hv;have hf:cO EY (ay (bV "Gate" "known" (aj 0)) (ay (bV "Gate" "on_line" (aj 0)) (ay (bV "Gate" "laid_ones" (aj 0)) (ay (cD "Gate" "waiting" xC (aj 0) aJ) (ay (e2 dZ (bV "Gate" "numbers" (aj 0)) (eC (.int 0))) aJ))))) [some (gD g,.own)]=some (iL (g.ld++ex),.own):=
   cR (ps:=[(obj g.C,.sh [0]),(iL g.ln,.sh [0]),(iL g.ld,.sh [0]),(iL (wl g),.own),(.int g.w,.own)]) (by rw[aX,aX,aX,aX,f_ rfl (t_ (by lia))];rfl) hf
  have SX:Full g->ex=[]:=λfu=>by
    rcases fu with h|h
    .rcases F.le with q|q
     .have:=k.su;rw[abN] at q;exact agS (by lia)
     .exact q
    .cases ee:ex with
     |nil=>rfl
     |cons x r=>
      exact absurd (F.fst x r ee) λ⟨v,h1,h2,h3⟩=>by
       rw[h x (F.sub x (ee ▸ aar)) v h1 h2] at h3;cases h3
  have same:Full g->g.ld++ex=g.ld:=λfu=>by rw[SX fu,acE]
  have fg:Fin g->g.ht=false->g9 g ex=g:=λf h=>by
   unfold g9;rw[same ((f.go h).2.2 hb)]
  have k1:Gd (g9 g ex):=by
   refine⟨k.w1,k.h1,k.nt,k.gc,λx m=>?_,?_,?_,λx m=>?_,k.gr,let⟨v,h,_⟩:=F.run;⟨v,h⟩⟩
   .have m:x∈g.ln++(g.ld++ex):=m;rw[<- afi] at m;exact(abE.mp m).elim (k.row x) λm=>pS (g:=g) x (F.sub x m)
   .show(g.ln++(g.ld++ex)).Nodup;rw[<- afi];refine acP.mpr ⟨k.nd,F.nd,λa ma b mb e=>?_⟩;have:=iS.mp (F.sub b mb);exact(abE.mp ma).elim (λm=>this.2.1 (e ▸ m)) λm=>this.2.2.1 (e ▸ m)
   .show(((g.ld++ex).length:Nat):Int)<=g.w;rcases F.le with q|q
    .exact q
    .rw[q,acE];exact k.su
   .have m:x∈g.ln++(g.ld++ex):=m;rw[<- afi] at m;exact(abE.mp m).elim (k.j8 x) λm=>(iS.mp (F.sub x m)).2.2.2
  have DP:∀x∈wl (g9 g ex),x∈wl g/\x∉ex:=λx m=>by
   have h:=iS.mp m;have h3:=h.2.2.1;exact⟨iS.mpr ⟨h.1,h.2.1,λq=>h3 (abq _ q),h.2.2.2⟩,λq=>h3 (aaV _ q)⟩
  have E6:Lf (g9 g ex):=λx m y my=>lf x (DP x m).1 y my
  have Pz:Full (g9 g ex):=by
   obtain⟨v',r1,r2⟩:=F.run;rcases r2 with q|q
   .exact .inl q
   .refine .inr λx m v jR SW=>?_
    obtain⟨m1,m2⟩:=DP x m;have jR:f6 [] (gb g.C (g.ln++(g.ld++ex)))=some v:=jR;rw[r1] at jR;cases jR;exact q x m1 m2 SW
  have JU:=k1.len;have st:jn (xr 0 "Gate" "laid_ones" (cO EY (ay (bV "Gate" "known" (aj 0)) (ay (bV "Gate" "on_line" (aj 0)) (ay (bV "Gate" "laid_ones" (aj 0)) (ay (cD "Gate" "waiting" xC (aj 0) aJ) (ay (e2 dZ (bV "Gate" "numbers" (aj 0)) (eC (.int 0))) aJ))))))) [some (gD g,.own)]=some (.nx [some (gD (g9 g ex),.own)]):=oW hf rfl rfl rfl
  by_cases h1:dz (g9 g ex)=some 1
  .have hm:=zc h1;obtain⟨x,r,e1⟩:=agZ (λe:(g9 g ex).ld=[]=>by rw[e] at hm;simp at hm);obtain⟨u,n,_⟩:=Lq k1 e1;exact⟨true,[],putD g.gr (Sum.inl x) (nA (g9 g ex)),kP rfl (sq (fL ht st) (Ca (RW (xo rfl (Rt k1 h1 e1))))),⟨u.gd,u.mo,u.pf⟩,(λ_=>n),(λe=>nomatch e),(λf h=>by rw[fg f h,hb] at h1;cases h1),(λp e=>nomatch e),λe=>nomatch e⟩
  .have Lh:∀b gr,F9 (gD (g9 g ex)) []=some (.bl b,gD { g9 g ex with gr:=gr })->B_ (gD g) []=some (.bl b,gD { g with ld:=g.ld++ex,gr:=gr }):=λb gr h=>kP rfl (sq (fL ht st) (Ca (O5 (xo rfl (OP (by lia) h1)) (xo rfl h))))
   by_cases he:(g9 g ex).ld=[]
   .obtain⟨u,h⟩:=abS k1 he;obtain⟨a,b⟩:=P6 (l:=aY (g9 g ex)) k1.gr λx m=>by have:=pS x (acL.mp m).1;exact je.mpr (show 1<=x/\x<1+((g9 g ex).C.length:Int) by lia)
    refine⟨_,g.ld++ex,_,Lh _ _ h,⟨k1.cut (agv _) a λx m=>?_,(λx q=>(b x).trans (by rw[show bY (g9 g ex).gr x=true from q,Bool.or_true])),R5 (IB.sublist aeY) λx m=>(iS.mp (acL.mp m).1).2.2.2⟩,λe=>?_,λe=>?_,λf h=>?_,(λp e=>nomatch e),(λe=>nomatch e)⟩
    .rw[b,show bY (g9 g ex).gr x=false from k1.j8 x m,abR λq=>?_]
     .rfl
     .have:=iS.mp (acL.mp q).1;exact(abE.mp m).elim this.2.1 this.2.2.1
    .obtain⟨x,r,e1⟩:=agZ (λz:aY (g9 g ex)=[]=>by rw[z] at e;cases e);have mx:=e1 ▸ aar;exact⟨x,(b x).trans (by rw[aa1 mx];rfl),(iS.mp (DP x (acL.mp mx).1).1).2.2.2⟩
    .have e2:aY (g9 g ex)=[]:=by simpa using e
     rw[e2];exact⟨rfl,λhh=>⟨E6,λ_=>⟨h1,λ_=>af9 k1 E6 he e2,λ_=>Pz⟩⟩,λz=>absurd rfl z,same⟩
    .have e3:=fg f h;rw[e3] at he;rw[e3,show aY g=[] from(by unfold aY;rw[(f.go h).2.1 he];rfl)];rfl
   .exact⟨false,g.ld++ex,g.gr,Lh _ _ (Mm he),⟨k1,λx q=>q,agv _⟩,(λe=>nomatch e),(λ_=>⟨rfl,λhh=>⟨E6,λ_=>⟨h1,λe=>absurd e he,λ_=>Pz⟩⟩,λz=>absurd rfl z,same⟩),(λ_ _=>rfl),(λp e=>nomatch e),λe=>nomatch e⟩
def dD(g:G):G:={ g with lk:=Co g }
abbrev cS:aO->Option (Bool×aO):=xy (lW (tV (bV "Gate" "halted" (aj 0)))) (tZ (xO 0 "Gate" "put_out_more" B_ aJ))
theorem OW:lW (tV (bV "Gate" "halted" (aj 0))) [some (gD g,.own)]=some (!g.ht):=kN (bx (fl rfl))
theorem adp(h:g.ht=true):cS [some (gD g,.own)]=some (false,[some (gD g,.own)]):=by
 have:=OW (g:=g);rw[h] at this;unfold cS xy;rw[this];rfl
theorem abD(h:f ρ=some (.bl b,ρ')):tZ f ρ=some (b,ρ'):=by unfold tZ;rw[h]
theorem Oh(h:g.ht=false)(hm:B_ (gD g) []=some (.bl b,gD g1)):cS [some (gD g,.own)]=some (b,[some (gD g1,.own)]):=by
 have:=OW (g:=g);rw[h] at this;refine Eq.trans ?_ (abD (xo (ρ:=[some (gD g,.own)]) (m:="put_out_more") rfl hm));unfold cS xy;rw[this];rfl
theorem ON(h:c ρ=some (false,aS)):lu c f (n+1) ρ=some (.nx aS):=by rw[lu,h]
theorem WN(h:c ρ=some (true,aS))(h2:f aS=some (.nx bh)):lu c f (n+1) ρ=lu c f n bh:=by
 rw[lu,h];dsimp only;rw[h2]
theorem R1(k:Gd g):sZ (xO 0 "Gate" "put_out_leaning" Cs aJ) [some (gD g,.own)]=some (.nx [some (gD (gX g),.own)]):=by
 unfold sZ;rw[xo rfl (XG k.gc k.gr)];rfl
theorem ab0(m:x∈wl g):x∈b_ 1 g.C.length:=(acL.mp m).1
theorem C_(k:Gd g):Up g g.ld (gX g).gr/\Lf (gX g):=by
 obtain⟨a,b,c⟩:=zX k.gr λx m=>ab0 m
 have sub:∀x∈wl (gX g),x∈wl g:=λx m=>by
  have h:=iS.mp m;refine iS.mpr ⟨h.1,h.2.1,h.2.2.1,?_⟩;cases q:gZ g x with
  |false=>rfl
  |true=>rw[show gZ (gX g) x=true from b x q] at h;cases h.2.2.2
 refine⟨⟨k.cut (agv _) a λx m=>?_,b,RI IB λx m=>(iS.mp m).2.2.2⟩,λx m y my=>EZ k.gc.bd Cq pS k.gr x (sub x m) (iS.mp m).2.2.2 y my⟩;cases q:bY (gX g).gr x with
 |false=>rfl
 |true=>
  rcases c x q with q|q
  .rw[show bY g.gr x=false from k.j8 x m] at q;cases q
  .have:=iS.mp q;exact((abE.mp m).elim this.2.1 this.2.2.1).elim
theorem Al(k:Gd g)(lf:Lf g):gX g=g:=by
 have:∀l:List Int,(∀x∈l,x∈wl g)->l.foldl (dN g.C) g.gr=g.gr:=λl=>by
  induction l with
  |nil=>intro _;rfl
  |cons x l ih=>
   intro h;have e:dN g.C g.gr x=g.gr:=by
    unfold dN;rw[show gone g.C g.gr x=[] from List.filter_eq_nil_iff.mpr λy my=>by rw[show bY g.gr y=false from lf x (h x aar) y my];exact abz]
   rw[aeF,e];exact ih λy m=>h y (aaa _ m)
 unfold gX;rw[this (wl g) λx m=>m]
theorem Qh(k:Gd g)(h:¬Lf g):o8 g (gX g).gr:=by
 have⟨x,hx⟩:=ag3.mp h;have⟨mx,hx⟩:=ag3.mp hx;have⟨y,hy⟩:=ag3.mp hx;have⟨my,hy⟩:=ag3.mp hy;obtain⟨u,_⟩:=C_ k;refine⟨x,?_,(iS.mp mx).2.2.2⟩;cases q:bY (gX g).gr x with
 |true=>rfl
 |false=>
  have h1:=EZ k.gc.bd Cq pS k.gr x mx q y my;rw[show bY ((wl g).foldl (dN g.C) g.gr) y=true from u.mo y (by simpa using hy)] at h1;cases h1
theorem Up.trans(a:Up g ld gr)(b:Up { g with ld:=ld,gr:=gr } ld2 Xy):Up g ld2 Xy:=⟨b.gd,λx q=>b.mo x (a.mo x q),a.pf.trans b.pf⟩
def tu(g:G):Nat:=((b_ 1 g.C.length).filter λx=>!gZ g x).length
theorem MK:(b_ a n).Nodup:=(zQ a n).imp λh=>by lia
theorem aav(mo:∀x,bY g.gr x=true->bY gr x=true):tu { g with ld:=ld,gr:=gr }<=tu g:=sub_len (MK.sublist aeY) λx m=>by
 obtain⟨m1,m2⟩:=acL.mp m;refine acL.mpr ⟨m1,?_⟩;cases q:gZ g x with
 |false=>rfl
 |true=>rw[show gZ ({ g with ld:=ld,gr:=gr }:G) x=true from mo x q] at m2;cases m2
theorem agl(u:Up g ld gr)(n:o8 g gr):tu { g with ld:=ld,gr:=gr } < tu g:=by
 obtain⟨x,h1,h2⟩:=n;have:=sub_len (l:=x::(b_ 1 g.C.length).filter λx=>!bY gr x) (m:=(b_ 1 g.C.length).filter λx=>!gZ g x) (abV.mpr ⟨(λm=>by have:=(acL.mp m).2;rw[h1] at this;cases this),MK.sublist aeY⟩) λy m=>by
  rcases abb.mp m with rfl|m
  .exact acL.mpr ⟨u.gd.gr.bd h1,by rw[h2];rfl⟩
  .obtain⟨m1,m2⟩:=acL.mp m;refine acL.mpr ⟨m1,?_⟩;cases q:gZ g y with
   |false=>rfl
   |true=>rw[u.mo y q] at m2;cases m2
 exact this
theorem Z5(m n:Nat)(g:G)(hm:tu g<=m)(hn:m<n)(k:Gd g)(lf:Lf g)(hh:g.ht=false):∃ld gr,lu cS (sZ (xO 0 "Gate" "put_out_leaning" Cs aJ)) n [some (gD g,.own)]=some (.nx [some (gD { g with ld:=ld,gr:=gr },.own)])/\Up g ld gr/\Fin { g with ld:=ld,gr:=gr }/\(o8 g gr\/gr=g.gr/\(dz g≠none->ld=g.ld)/\(Full g->ld=g.ld))/\(Fin g->gr=g.gr/\ld=g.ld)/\(∀p,dz g=some p->p≠1->ld=g.ld)/\(dz g=some 1->cnt g.gr+1<=cnt gr):=by
 induction n generalizing m g with
 |zero=>omega
 |succ n ih=>
  obtain⟨b,ld,gr,e,u,ht,hf,hs,EU,tU⟩:=adt k lf;cases b with
  |false=>
   obtain⟨f1,f2,f3,f4⟩:=hf rfl;refine⟨ld,gr,ON (Oh hh e),u,f2 hh,.inr ⟨f1,f3,f4⟩,λf=>⟨f1,?_⟩,(λp e _=>f3 (by rw[e];exact λz=>by cases z)),λe=>by have:=tU e;rw[f1] at this;omega⟩;cases hb:dz g with
   |none=>exact f4 ((f.go hh).2.2 hb)
   |some p=>exact f3 (by rw[hb];exact λz=>by cases z)
  |true=>
   have nw:=ht rfl;have l1:=agl u nw;obtain⟨u2,lf2⟩:=C_ u.gd;cases m with
   |zero=>omega
   |succ m=>
    have l2:=aav (ld:=ld) u2.mo;obtain⟨ld3,VI,e3,u3,f3,_⟩:=ih m (gX { g with ld:=ld,gr:=gr }) (adE l2 (by omega)) (by omega) u2.gd lf2 hh;have u4:=(u.trans u2).trans u3;refine⟨ld3,VI,(WN (Oh hh e) (R1 u.gd)).trans e3,u4,f3,.inl ?_,(λf=>absurd (hs f hh) (by decide)),(λp e np=>absurd (EU p e np) (by decide)),λe=>adE (tU e) (Ng (u2.pf.trans u3.pf))⟩;obtain⟨x,h1,h2⟩:=nw;exact⟨x,u3.mo x (u2.mo x h1),h2⟩
theorem aaD(k:Gd g):∃ld gr,m5 (gD g) []=some (.aA,gD (dD { g with ld:=ld,gr:=gr }))/\Up g ld gr/\Fin { g with ld:=ld,gr:=gr }/\(g.ht=true->ld=g.ld)/\(o8 g gr\/gr=g.gr/\(dz g≠none->ld=g.ld)/\(Full g->ld=g.ld))/\(Fin g->gr=g.gr/\ld=g.ld)/\(∀p,dz g=some p->p≠1->ld=g.ld)/\(dz g=some 1->g.ht=false->cnt g.gr+1<=cnt gr):=by
 obtain⟨u,lf⟩:=C_ k;have fin:∀{ld} {gr},Up g ld gr->lu cS (sZ (xO 0 "Gate" "put_out_leaning" Cs aJ)) 4000 [some (gD (gX g),.own)]=some (.nx [some (gD { g with ld:=ld,gr:=gr },.own)])->m5 (gD g) []=some (.aA,gD (dD { g with ld:=ld,gr:=gr })):=λ{ld gr} u e=>by
  have hl:=u.gd.len;have hl:=hl;exact qA rfl (sq (iK (R1 k)) (sq (iK e) (oW (f_ rfl (ab6 (by show g.ln.length+ld.length<=900;lia) (by show ld.length<64;lia) (by have:=k.h1;show g.h<=60;lia))) rfl rfl rfl))) rfl
 have old:(∀z,o8 (gX g) z->o8 g z):=λz ⟨x,h1,h2⟩=>⟨x,h1,by
  cases q:gZ g x with
  |false=>rfl
  |true=>rw[show gZ (gX g) x=true from u.mo x q] at h2;cases h2⟩
 by_cases hh:g.ht=true
 .refine⟨g.ld,(gX g).gr,fin u (ON (adp hh)),u,⟨lf,λh=>by rw[show g.ht=true from hh] at h;cases h⟩,λ_=>rfl,?_,λf=>?_,λ_ _ _=>rfl,λ_ h=>by rw[hh] at h;cases h⟩
  .by_cases l:Lf g
   .exact .inr ⟨by rw[Al k l],λ_=>rfl,λ_=>rfl⟩
   .exact .inl (Qh k l)
  .rw[Al k f.lf];exact⟨rfl,rfl⟩
 .have hh:g.ht=false:=by simpa using hh
  have nl:tu (gX g)<=60:=by
   have:=ae5 (λx=>!gZ (gX g) x) (b_ 1 g.C.length);rw[mY] at this;have:=k.gc.ln;unfold tu;show((b_ 1 g.C.length).filter λx=>!gZ (gX g) x).length<=60
   lia
  obtain⟨ld,gr,e,u3,f3,d,s,n1,n2⟩:=Z5 60 4000 (gX g) nl (by lia) u.gd lf hh;refine⟨ld,gr,fin (u.trans u3) e,u.trans u3,f3,(λh=>by rw[hh] at h;cases h),?_,λf=>?_,n1,λe _=>adE (Nat.add_le_add_right (Ng u.pf) 1) (n2 e)⟩
  .by_cases l:Lf g
   .rw[Al k l] at d;exact d
   .obtain⟨x,h1,h2⟩:=Qh k l;exact .inl ⟨x,u3.mo x h1,h2⟩
  .rw[Al k f.lf] at s;exact s f
theorem CZ(h:fv ρ=some (.int j,t))(h0:ρ[0]? = some (some (gD g,.own)))(hl:(gF g).lookup f=some (.int i))(e:dR f (.int (i+j)) (gF g)=gF g'):jn (Ae 0 "Gate" f fv) ρ=some (.nx (bT ρ 0 (gD g'))):=by
 refine iK ?_;unfold Ae;rw[h,h0];show(if("Gate":Str)="Gate"/\(gF g).length<1000 then(match(gF g).lookup f with|some (.int k)=>some (Out.nx (bT ρ 0 (.ins "Gate" (dR f (.int (k+j)) (gF g)))))|_=>none) else none)=_;rw[if_pos ⟨rfl,by show 12<1000;decide⟩,hl];dsimp only;rw[e];rfl
theorem wD(h0:ρ[0]? = some (some (gD g,.own)))(h:F (gD g) []=some (r,gD g'))(hm:(gF g).lookup m=none:=by rfl):jn (sZ (xO 0 "Gate" m F aJ)) ρ=some (.nx (bT ρ 0 (gD g'))):=iK (by
 unfold sZ;rw[xo h0 h hm];rfl)
noncomputable def G_(g:G):G:={ g with ld:=[],ht:=true,br:=g.br+1 }
theorem ae1(h:m5 (gD (G_ g)) []=some (.aA,gD g3)):Mg (gD g) []=some (.aA,gD g3):=
 qA rfl (sq (oW rfl rfl rfl rfl) (sq (oW (g:={ g with ld:=[] }) rfl rfl rfl rfl)
  (sq (CZ (g:={ g with ld:=[],ht:=true }) rfl rfl rfl rfl) (wD rfl h)))) rfl
theorem Zf(h:m5 (gD { g with ht:=false }) []=some (.aA,gD g3)):MJ (gD g) []=some (.aA,gD g3):=
 qA rfl (sq (oW rfl rfl rfl rfl) (wD rfl h)) rfl
noncomputable def vH(g:G)(c:Ch):G:={ g with C:=g.C++[c] }
theorem adY(hl:l.length<=100)(hE:E.length<=100)(hm:vP g.C.length q l E=true)(hC:g.C.length<60)(h:m5 (gD (vH g (q,l,E))) []=some (.aA,gD g3)):Qk (gD g) [.int q,iL l,eL E]=some (.int (g.C.length+1),gD g3):=by
 have h1:Bt 0 "Gate" "known" "Changes" "added" Au (ay (aj 1) (ay (aj 2) (ay (aj 3) aJ))) [some (gD g,.own),some (.int q,.sh []),some (iL l,.sh []),some (eL E,.sh []),none]=some (.int (g.C.length+1),[some (gD (vH g (q,l,E)),.own),some (.int q,.sh []),some (iL l,.sh []),some (eL E,.sh []),none]):=by
  show(if("Gate":Str)="Gate"/\("Changes":Str)="Changes"/\([("entries",D.lst (g.C.map ent))]:List (Str×D)).lookup ("added":Str)=none/\apart 0 [(.int q,.sh []),(iL l,.sh []),(eL E,.sh [])]=true then(Au (obj g.C) [.int q,iL l,eL E]).map _ else none)=_;rw[if_pos ⟨rfl,rfl,rfl,rfl⟩,Yz hl hE hm hC];rfl
 refine kP rfl (sq (ρ':=[some (gD (vH g (q,l,E)),.own),some (.int q,.sh []),some (iL l,.sh []),some (eL E,.sh []),some (.int (g.C.length + 1),.own)]) (iK (by
  show(match Bt 0 "Gate" "known" "Changes" "added" Au (ay (aj 1) (ay (aj 2) (ay (aj 3) aJ))) [some (gD g,.own),some (.int q,.sh []),some (iL l,.sh []),some (eL E,.sh []),none] with|some (d,ρ')=>some (Out.nx (iB ρ' 4 d .own))|none=>none)=_;rw[h1];rfl)) (sq (wD rfl h) rfl))
def m9(g:G)(x:Int):G:={ g with ld:=if x∈g.ld then g.ld.takeWhile (λy=>!(y==x)) else g.ld,gr:=putD g.gr (Sum.inl x) (.tup [.str "withdrawn"]),br:=g.br+1 }
theorem Q3:∀{l:List Int} {x},x∈l->l.findIdx? (· == x)=some (l.takeWhile λy=>!(y==x)).length
 |[],x,m=>nomatch m
 |a::l,x,m=>by
  rw[List.findIdx?_cons,List.takeWhile_cons];cases e:(a==x) with
  |true=>rfl
  |false=>
   rw[Q3 ((abb.mp m).resolve_left λq=>by rw[q] at e;simp at e)];rfl
theorem AW{x:Int}:l.takeWhile (λy=>!(y==x)) <+: l:=List.takeWhile_prefix _
theorem afS{l:List Int}:l.take (l.takeWhile λy=>!(y==x)).length=l.takeWhile λy=>!(y==x):=by
 obtain⟨r,e⟩:=AW (l:=l) (x:=x)
 conv=>lhs;rw[<- e]
 rw[e];exact(List.prefix_iff_eq_take.mp (AW)).symm
theorem QW:∀{l:List Int} {x},x∉l.takeWhile (λy=>!(y==x))
 |[],x,m=>nomatch m
 |a::l,x,m=>by
  rw[List.takeWhile_cons] at m;cases e:(a==x) with
  |true=>rw[e] at m;cases m
  |false=>
   rw[e] at m;rcases abb.mp m with q|q
   .rw[<- q] at e;simp at e
   .exact QW q
theorem aaJ(k:Gd g)(hx:1<=x/\x<=(g.C.length:Int))(nl:x∉g.ln)(no:gZ g x=false)(h:m5 (gD (m9 g x)) []=some (.aA,gD g3)):NI (gD g) [.int x]=some (.aA,gD g3):=by
 have t1:lW (tV (cD "Changes" "has" Hi (bV "Gate" "known" (aj 0)) (ay (aj 1) aJ))) [some (gD g,.own),some (.int x,.sh [])]=some false:=kN (b:=true) (bx (IG (fl rfl) rfl ((Iq g.C x).trans (by unfold inR;rw[aa1 hx.1,aa1 hx.2];rfl))));have t2:jX (tV (e2 (jP false) (aj 1) (bV "Gate" "on_line" (aj 0)))) (tV (e2 (pN false) (aj 1) (bV "Gate" "grounds" (aj 0)))) [some (gD g,.own),some (.int x,.sh [])]=some false:=
  (pX ((bx (aK rfl (fl rfl) (by unfold iL;rw[AM,if_neg abz,D5]))).trans (by rw[abR nl]))).trans (bx (aK rfl (fl rfl) (by show some (D.bl (gZ g x))=_;rw[no])))
 have t3:tV (e2 (jP false) (aj 1) (bV "Gate" "laid_ones" (aj 0))) [some (gD g,.own),some (.int x,.sh [])]=some (decide (x∈g.ld)):=bx (aK rfl (fl rfl) (by unfold iL;rw[AM,if_neg abz,D5]));refine qA rfl (dg t1 (dg t2 (sq (ρ':=[some (gD { g with ld:=(m9 g x).ld },.own),some (.int x,.sh [])]) ?_ (sq (iK (z7 rfl rfl rfl rfl k.gr.im (by have:=k.gr.len;have:=k.gc.ln;show g.gr.length<=100;lia)))
  (sq (CZ rfl rfl rfl rfl) (wD rfl h)))))) rfl
 by_cases mx:x∈g.ld
 .rw[aa1 mx] at t3;have e1:e2 E9 (bV "Gate" "laid_ones" (aj 0)) (aj 1) [some (gD g,.own),some (.int x,.sh [])]=some (.int (g.ld.takeWhile λy=>!(y == x)).length,.own):=aK (fl rfl) rfl (by
   show(match d_ (g.ld.map D.int) with|some ts=>(ts.findIdx? (· == x)).map λj:Nat=>D.int j|none=>none)=_;rw[vj];dsimp only;rw[Q3 mx];rfl)
  have c:lZ (bV "Gate" "laid_ones" (aj 0)) (e2 E9 (bV "Gate" "laid_ones" (aj 0)) (aj 1)) [some (gD g,.own),some (.int x,.sh [])]=some (iL (m9 g x).ld,.own):=by
   unfold lZ;rw[fl rfl,e1];show(if aN (g.ld.map D.int)=true then some (D.lst (cutD (g.ld.map D.int) none (some ((g.ld.takeWhile λy=>!(y==x)).length:Int))),Tag.own) else none)=_;rw[if_pos (eO _),BU (by rw[List.length_map];exact List.IsPrefix.length_le AW),<- List.map_take,afS];unfold m9;rw[if_pos mx];rfl
  exact fL t3 (oW c rfl rfl rfl)
 .rw[abR mx] at t3;refine fV t3 ?_;unfold m9;rw[if_neg mx];rfl
abbrev hd(ta:Ta)(L:List Int):List Str:=(qE ta L).getD []
theorem afQ{L:List Int}:(bB (o_ n t ta) (kL L)).getD (tob n t [])=tob n t (hd ta L):=by
 rw[Ku];unfold hd;cases qE ta L<;>rfl
theorem SJ{L:List Int}:putD (o_ n t ta) (kL L) (tob n t h)=o_ n t (gp ta L h):=G5 (λ_ _=>qm)
theorem ab7{L:List Int}(hL:L≠[])(k:Gd g)(tn:(g.ta.map (·.1)).Nodup)(tl:g.ta.length<=5000)(hw:w∈(["yes","no","unsure"]:List Str))(hm:word g.n g.t (hd g.ta L)="more"):
  vB "Gate" "tallies" "Tally" "tell" (uX "Tally" Ay (ay (e2 dZ (bV "Gate" "numbers" (aj 0)) (eC (.int 2))) (ay (e2 dZ (bV "Gate" "numbers" (aj 0)) (eC (.int 3))) aJ))) Pd [some (gD g,.own),some (tD L,.sh []),some (.str w,.sh []),none,none] =
   some (.nx [some (gD { g with ta:=gp g.ta L (hd g.ta L++[w]) },.own),some (tD L,.sh []),some (.str w,.sh []),none,some (.str (word g.n g.t (hd g.ta L++[w])),.own)]):=by
 have e1:uX "Tally" Ay (ay (e2 dZ (bV "Gate" "numbers" (aj 0)) (eC (.int 2))) (ay (e2 dZ (bV "Gate" "numbers" (aj 0)) (eC (.int 3))) aJ)) [some (gD g,.own),some (tD L,.sh []),some (.str w,.sh []),none,none]=some (tob g.n g.t [],.own):=by
  show(match Ay (.ins "Tally" []) [.int g.n,.int g.t] with|some (.aA,d)=>some (d,Tag.own)|_=>none)=_;rw[ZY k.nt]
 have n1:((o_ g.n g.t g.ta).map (·.1)).Nodup:=by
  unfold o_;rw[ac4,show((λkv:List Key×D=>kv.1) ∘ λp:List Int×List Str=>(kL p.1,tob g.n g.t p.2))=kL ∘ (·.1) from rfl,<- ac4];unfold List.Nodup at tn ⊢;rw[afn];exact tn.imp λq e=>q (qm e)
 refine(U0 rfl rfl rfl rfl rfl (vS _) e1 afQ (Vg hw hm (by have:=Pa hm;have:=k.nt;lia)) ⟨rfl,by unfold kL;rw[ahb];exact ada.mpr λ_ _=>rfl,λz=>hL (List.map_eq_nil_iff.mp z),n1,size_le (by unfold o_;rw[List.length_map];lia),rfl⟩).trans ?_;rw[SJ];rfl
def jf(g:G)(L:List Int)(w:Str):G:={ g with ta:=gp g.ta L (hd g.ta L++[w]),an:=g.an+1,en:=if(word g.n g.t (hd g.ta L++[w]) == "more")=true then g.en else g.en++[.tup [tD L,.str (word g.n g.t (hd g.ta L++[w]))]] }
def uC(g:G)(L:List Int):G:={ g with ld:=g.ld.drop (L.length-g.ln.length),ln:=L,gw:=g.gw++[L] }
theorem Gm(L:List (List Int)):aN (bS L)=true:=xZ.mpr λd m=>by
 obtain⟨l,_,rfl⟩:=abX.mp m;exact eO l
theorem Z7{L:List Int}(h1:g.ln.length<=L.length)(h2:L.length<=g.ln.length+g.ld.length)(hg:g.gw.length<=5000):qZ (gD g) [tD L]=some (.aA,gD (uC g L)):=by
 have c:CI (bV "Gate" "laid_ones" (aj 0)) (e2 kg (e1 d7 (aj 1)) (e1 d7 (bV "Gate" "on_line" (aj 0)))) [some (gD g,.own),some (tD L,.sh [])]=some (iL (g.ld.drop (L.length-g.ln.length)),.own):=by
  have e1:e2 kg (e1 d7 (aj 1)) (e1 d7 (bV "Gate" "on_line" (aj 0))) [some (gD g,.own),some (tD L,.sh [])]=some (.int ((L.length-g.ln.length:Nat):Int),.own):=aK (bf rfl (by show some (D.int (L.map D.int).length)=_;rw[List.length_map])) (bf (fl rfl) (by show some (D.int (g.ln.map D.int).length)=_;rw[List.length_map])) (by show some (D.int (_-_))=_;rw[Int.natCast_sub h1]);unfold CI;rw[fl rfl,e1];show(if aN (g.ld.map D.int)=true then some (D.lst (cutD (g.ld.map D.int) (some ((L.length-g.ln.length:Nat):Int)) none),Tag.own) else none)=_;rw[if_pos (eO _),Qp (by rw[List.length_map];lia),<- List.map_drop];rfl
 refine qA rfl (sq (oW c rfl rfl rfl) (sq (oW (g:={ g with ld:=g.ld.drop (L.length - g.ln.length) }) (bf rfl Qu) rfl rfl rfl) (iK ((Ak (es:=gF { g with ld:=g.ld.drop (L.length - g.ln.length),ln:=L }) rfl rfl rfl ?_).trans (by
  have:gD (uC g L)=.ins "Gate" (dR "grown" (.lst (bS g.gw++[tD L])) (gF { g with ld:=g.ld.drop (L.length-g.ln.length),ln:=L })):=by
   unfold gD gF uC bS;rw[ade];rfl
  rw[<- this]))))) rfl
 rw[Gm,show aC (tD L)=true from eO L,aa1 (size_le (by unfold bS;rw[List.length_map];lia))];rfl
def aV(g:G)(L:List Int)(w:Str):G:=if(word g.n g.t (hd g.ta L++[w]) == "yes")=true then uC (jf g L w) L else jf g L w
theorem Yo{L:List Int}(hk:L∈g.lk)(hL:L≠[])(k:Gd g)(tn:(g.ta.map (·.1)).Nodup)(tl:g.ta.length<=5000)(hw:w∈(["yes","no","unsure"]:List Str))(hm:word g.n g.t (hd g.ta L)="more")(em:aN g.en=true)(el:g.en.length<=5000)(gl:g.gw.length<=5000)(h1:g.ln.length<=L.length)(h2:L.length<=g.ln.length+g.ld.length)
  (hs:m5 (gD (aV g L w)) []=some (.aA,gD g3)):R0 (gD g) [tD L,.str w]=some (.str (word g.n g.t (hd g.ta L++[w])),gD g3):=by
 generalize ew:word g.n g.t (hd g.ta L++[w])=u;have ft:=ab7 hL k tn tl hw hm;rw[ew] at ft;have hu:∀g':G,jn (sZ (xO 0 "Gate" "grow" qZ (ay (aj 1) aJ))) [some (gD g',.own),some (tD L,.sh []),some (.str w,.sh []),none,some (.str u,.own)]=(qZ (gD g') [tD L]).map λv=>.nx [some (v.2,.own),some (tD L,.sh []),some (.str w,.sh []),none,some (.str u,.own)]:=λg'=>by
  show jn (λρ=>(xO 0 "Gate" "grow" qZ (ay (aj 1) aJ) ρ).map λw=>.nx w.2) _=_;have:xO 0 "Gate" "grow" qZ (ay (aj 1) aJ) [some (gD g',.own),some (tD L,.sh []),some (.str w,.sh []),none,some (.str u,.own)]=(qZ (gD g') [tD L]).map λv=>(v.1,bT [some (gD g',.own),some (tD L,.sh []),some (.str w,.sh []),none,some (.str u,.own)] 0 v.2):=by
   show(if("Gate":Str)="Gate"/\(gF g').lookup ("grow":Str)=none/\apart 0 [(tD L,.sh [])]=true then _ else none)=_;rw[if_pos ⟨rfl,rfl,rfl⟩];rfl
  unfold jn;dsimp only;rw[this];cases qZ (gD g') [tD L]<;>rfl
 refine kP rfl (dg (bx (aK rfl (fl rfl) ((AR true L g.lk).trans (by rw[aa1 hk];rfl)))) (sq ft (sq (ρ':=[some (gD { g with ta:=gp g.ta L (hd g.ta L++[w]),an:=g.an+1 },.own),some (tD L,.sh []),some (.str w,.sh []),none,some (.str u,.own)]) (CZ rfl rfl rfl rfl) (sq (ρ':=[some (gD (jf g L w),.own),some (tD L,.sh []),some (.str w,.sh []),none,some (.str u,.own)]) ?_ (sq (ρ':=[some (gD (aV g L w),.own),some (tD L,.sh []),some (.str w,.sh []),none,some (.str u,.own)]) ?_ (sq (wD rfl hs) rfl))))))
 .have ht:tV (e2 jw (aj 4) (eC (.str "more"))) [some (gD { g with ta:=gp g.ta L (hd g.ta L++[w]),an:=g.an+1 },.own),some (tD L,.sh []),some (.str w,.sh []),none,some (.str u,.own)]=some (!(u == "more")):=rfl;unfold jf;rw[ew];cases e:(u==("more":Str)) with
  |true=>rw[e] at ht;rw[ja,ht];rfl
  |false=>
   rw[e] at ht;refine fL ht (iK ((Ak (d:=.tup [tD L,.str u]) rfl rfl rfl ?_).trans ?_))
   .have:aC (.tup [tD L,.str u])=true:=by unfold tD;simp only[aC,aN,eO,afH]
    rw[this,em,aa1 (size_le (by lia))];rfl
   .rfl
 .have ht:tV (e2 oEq (aj 4) (eC (.str "yes"))) [some (gD (jf g L w),.own),some (tD L,.sh []),some (.str w,.sh []),none,some (.str u,.own)]=some (u == "yes"):=rfl;unfold aV;rw[ew];cases e:(u==("yes":Str)) with
  |true=>
   rw[e] at ht;refine fL ht ((hu (jf g L w)).trans ?_);rw[Z7 (g:=jf g L w) h1 h2 gl];rfl
  |false=>rw[e] at ht;rw[ja,ht];rfl
theorem YB(n t:Int)(h:List Str):word n t h="yes"\/bw (word n t h)=true\/word n t h="more":=by
 unfold word
 split
 .exact .inl rfl
 .split
  .exact .inr (.inl rfl)
  .split
   .exact .inr (.inl rfl)
   .exact .inr (.inr rfl)
theorem Py(h:1<=n/\n<=t/\t<=20):word n t []="more":=by
 unfold word;rw[if_neg (by show ¬((0:Nat):Int) >= n;omega),if_neg (by show ¬((0:Nat):Int) >= n;omega),if_neg (by show ¬((0:Nat):Int) >= t;omega)]
theorem Vd(k:Gd g)(l:List Int):wd g l=word g.n g.t (hd g.ta l):=by
 unfold wd hd;cases qE g.ta l with
 |none=>exact(Py k.nt).symm
 |some h=>rfl
structure Gt(k:Nat)(g:G):Prop where
 tn:(g.ta.map (·.1)).Nodup
 tl:g.ta.length<=k
 yl:∀l,word g.n g.t (hd g.ta l)="yes"->l.length<=g.ln.length
 em:aN g.en=true
 el:g.en.length<=k
 gl:g.gw.length<=k
 lg:g.gw.getLastD []=g.ln
 st:g.ht=true->g.ld=[]
 ll:(g.lk.length:Int)<=g.h
structure Lk(g:G)(ps:List Int):Prop where
 ri:lF (eo g) ps
 ge:lim (eo g) g.h<=ps.length
 le:(ps.length:Int)<=g.h
 eq:g.lk=ps.map λp=>cQ g p.toNat
structure Gi(k:Nat)(g:G):Prop where
 gd:Gd g
 gt:Gt k g
 fin:Fin g
 Jv:∃ps,Lk g ps
theorem qN(h:p<=g.ld.length):(cQ g p).length=g.ln.length+p:=by
 unfold cQ;rw[abN,agQ];lia
theorem aaK(k:Gd g)(hl:(g.lk.length:Int)<=g.h):Lk (dD g) (vJ g):=by
 have hk:(iT g).length<=g.lk.length:=by
  have:=sub_len (l:=(iT g).map λp=>cQ g p.toNat) (m:=g.lk) ?_ λl m=>?_
  .rwa [List.length_map] at this
  .unfold List.Nodup;rw[afn];refine se.1.imp_of_mem λ{a b} ma mb lt e=>?_
   have:=congrArg List.length e;have ha:=(se).2.1 a ma;have hb:=(se).2.1 b mb;rw[qN (by lia),qN (by lia)] at this
   lia
  .obtain⟨p,mp,rfl⟩:=abX.mp m;exact abd ((abn _ _).mp (acL.mp mp).2).1
 have hi:(kq (eo g) (iT g)).length<=(iT g).length:=ae5 _ _;have hh:=k.h1;obtain⟨a,b⟩:=R_ (aZ:=g.h) 100 (kq (eo g) (iT g)) (by lia);exact⟨(RB (g:=g)).1,a,b (by lia),rfl⟩
theorem settled(gd:Gd g)(gt:Gt k g):∃ld gr,m5 (gD g) []=some (.aA,gD (dD { g with ld:=ld,gr:=gr }))/\Gi k (dD { g with ld:=ld,gr:=gr })/\Up g ld gr/\(o8 g gr\/gr=g.gr/\(dz g≠none->ld=g.ld)/\(Full g->ld=g.ld))/\(Fin g->gr=g.gr/\ld=g.ld)/\(∀p,dz g=some p->p≠1->ld=g.ld)/\(dz g=some 1->g.ht=false->cnt g.gr+1<=cnt gr):=by
 obtain⟨ld,gr,e,u,f,h,d,s⟩:=aaD gd;have L:=aaK (g:={ g with ld:=ld,gr:=gr }) u.gd gt.ll;have v:=u.gd;refine⟨ld,gr,e,⟨⟨v.w1,v.h1,v.nt,v.gc,v.row,v.nd,v.su,v.j8,v.gr,v.run⟩,⟨gt.tn,gt.tl,gt.yl,gt.em,gt.el,gt.gl,gt.lg,λq=>(h q).trans (gt.st q),?_⟩,⟨f.lf,f.go⟩,_,L⟩,u,d,s⟩;rw[L.eq,List.length_map];exact L.le
theorem Gi.mem(i:Gi k g)(m:l∈g.lk):∃p:Nat,1<=p/\(p:Int)<eo g/\p<=g.ld.length/\l=cQ g p/\word g.n g.t (hd g.ta l)="more":=by
 obtain⟨ps,L⟩:=i.Jv;rw[L.eq] at m;exists 78;have hx:=L.ri.bd x mx;have he:=Fz (g:=g);have hp:x.toNat<=g.ld.length:=by omega
 refine⟨x.toNat,by omega,by omega,hp,rfl,?_⟩;have nb:mT g x.toNat=false:=by
  cases e:dz g with
  |none=>exact adD.mp e _ (by omega) hp
  |some q=>
   refine(zc e).2.2.2 _ (by omega) ?_;unfold eo tR at hx;rw[e] at hx;have:x<(q:Int):=hx.2;omega
 unfold mT at nb;rw[Vd i.gd] at nb;rcases YB g.n g.t (hd g.ta (cQ g x.toNat)) with h|h|h
 .have:=i.gt.yl _ h;rw[qN hp] at this;omega
 .rw[h] at nb;cases nb
 .exact h
theorem Gd.re(k:Gd g)(ta:Ta)(lk:List (List Int))(ht:Bool)(gw:List (List Int))(en:List D)(an br:Int):Gd { g with ta:=ta,lk:=lk,ht:=ht,gw:=gw,en:=en,an:=an,br:=br }:=⟨k.w1,k.h1,k.nt,k.gc,k.row,k.nd,k.su,k.j8,k.gr,k.run⟩
theorem Gn{L l:List Int}:hd (gp ta L h) l=if l=L then h else hd ta l:=by
 unfold hd qE
 by_cases e:l=L
 .rw[if_pos e,e,Ey];rfl
 .rw[if_neg e,Np e]
theorem Km[DecidableEq κ]{es:List (κ×α)}:(gp es q d).length<=es.length+1:=by
 unfold gp
 split
 .rw[List.length_map];lia
 .rw[abN];exact abT _
theorem uQ(v:Gd g)(t:Gt k g):∃ld gr,m5 (gD g) []=some (.aA,gD (dD { g with ld:=ld,gr:=gr }))/\Gi k (dD { g with ld:=ld,gr:=gr }):=let⟨ld,gr,a,b,_⟩:=settled v t;⟨ld,gr,a,b⟩
theorem aaf(i:Gi k g):∃ld gr,Mg (gD g) []=some (.aA,gD (dD { G_ g with ld:=ld,gr:=gr }))/\Gi k (dD { G_ g with ld:=ld,gr:=gr }):=by
 have v:=(i.gd.cut List.nil_prefix i.gd.gr λx m=>i.gd.j8 x (abq _ (by rwa [acE] at m))).re g.ta g.lk true g.gw g.en g.an (g.br+1);have t:=i.gt;obtain⟨ld,gr,e,i'⟩:=uQ v ⟨t.tn,t.tl,t.yl,t.em,t.el,t.gl,t.lg,λ_=>rfl,t.ll⟩;exact⟨ld,gr,ae1 e,i'⟩
theorem Vs(i:Gi k g):∃ld gr,MJ (gD g) []=some (.aA,gD (dD { g with ht:=false,ld:=ld,gr:=gr }))/\Gi k (dD { g with ht:=false,ld:=ld,gr:=gr }):=by
 have v:=i.gd.re g.ta g.lk false g.gw g.en g.an g.br;have t:=i.gt;obtain⟨ld,gr,e,i'⟩:=uQ v ⟨t.tn,t.tl,t.yl,t.em,t.el,t.gl,t.lg,(λq=>by cases q),t.ll⟩;exact⟨ld,gr,Zf e,i'⟩
theorem aaH(i:Gi k g)(hx:x∈wl g\/x∈g.ld):∃ld gr,NI (gD g) [.int x]=some (.aA,gD (dD { m9 g x with ld:=ld,gr:=gr }))/\Gi k (dD { m9 g x with ld:=ld,gr:=gr }):=by
 have kd:=i.gd;have jC:(1<=x/\x<=(g.C.length:Int))/\x∉g.ln/\gZ g x=false:=by
  rcases hx with h|h
  .have:=iS.mp h;exact⟨this.1,this.2.1,this.2.2.2⟩
  .exact⟨kd.row x (aaV _ h),λm=>(acP.mp kd.nd).2.2 x m x h rfl,kd.j8 x (aaV _ h)⟩
 have pre:(m9 g x).ld <+: g.ld/\x∉(m9 g x).ld:=by
  unfold m9
  by_cases m:x∈g.ld
  .dsimp only;rw[if_pos m];exact⟨AW,QW⟩
  .dsimp only;rw[if_neg m];exact⟨agv _,m⟩
 have v:=(kd.cut (gr:=putD g.gr (Sum.inl x) (.tup [.str "withdrawn"])) pre.1 (kd.gr.put (je.mpr (by lia)) rfl) λy m=>by
  have ny:y≠x:=λe=>(abE.mp m).elim (λq=>jC.2.1 (e ▸ q)) λq=>pre.2 (e ▸ q)
  rw[nE,abR ny,Bool.false_or];exact kd.j8 y ((abE.mp m).elim (abq _) λq=>aaV _ (pre.1.subset q))).re g.ta g.lk g.ht g.gw g.en g.an (g.br+1)
 have t:=i.gt;obtain⟨ld,gr,e,i'⟩:=uQ v ⟨t.tn,t.tl,t.yl,t.em,t.el,t.gl,t.lg,(λq=>by
  have:=pre.1;rw[t.st q] at this;exact List.prefix_nil.mp this),t.ll⟩
 exact⟨ld,gr,aaJ kd jC.1 jC.2.1 jC.2.2 e,i'⟩
structure Gc(n:Nat)(c:Ch):Prop where
 ee:Ee c.2.2
 bd:∀x∈c.2.1,1<=x/\x<=(n:Int)
 few:c.2.1.length<=60
 ok:vP n c.1 c.2.1 c.2.2=true
theorem P1(h1:1<=m)(h2:m<=(C.length:Int)):ch (C++[c]) m=ch C m:=by
 unfold ch;rw[aea (by omega)]
theorem Xf(h1:1<=m)(h2:m<=(C.length:Int)):lean (sec (C++[c])) m=lean (sec C) m:=by
 rw[<- vU h1 (by rw[abN,aeh];lia),P1 h1 h2,vU h1 h2]
theorem Ee.nil:Ee []:=⟨⟨.nil,aes _⟩,.nil,λp m=>nomatch m⟩
theorem adR(g:GoodC C)(k:Gc C.length c)(hl:C.length<60):GoodC (C++[c]):=by
 have at_:∀(Q:Ch->Prop),Q (0,[],[])->Q c->(∀m,Q (ch C m))->∀m,Q (ch (C++[c]) m):=λQ q0 qc h m=>by
  unfold ch;rw[List.getElem?_append]
  split
  .exact h m
  .cases e:([c]:List Ch)[(m-1).toNat-C.length]? with
   |none=>exact q0
   |some x=>
    have:=aeL e;rw[aa3.mp this];exact qc
 refine⟨by rw[abN,aeh];lia,λm=>at_ (λc=>Ee c.2.2) Ee.nil k.ee (λm=>g.ed m) m,λm x h1 h2 mx=>?_,λm=>?_⟩
 .rw[abN,aeh] at h2
  by_cases h3:m<=(C.length:Int)
  .rw[Xf h1 h3] at mx;exact g.bd m x h1 h3 mx
  .have e:(ch (C++[c]) m)=c:=by
    unfold ch;rw[show(m-1).toNat=C.length by lia,aeB (abT _),Nat.sub_self];rfl
   rw[<- vU h1 (by rw[abN,aeh];lia),e] at mx;have:=k.bd x mx
   lia
 .by_cases h1:1<=m
  .by_cases h2:m<=((C++[c]).length:Int)
   .rw[<- vU h1 h2];refine at_ (λc=>c.2.1.length<=60) (aes _) k.few (λm=>?_) m;unfold ch;cases e:C[(m-1).toNat]? with
    |none=>exact aes _
    |some x=>
     have cU:=(abL.mp e).1;have:=g.few (((m-1).toNat:Int)+1);rw[<- vU (by lia) (by lia)] at this;unfold ch at this;rw[show((((m-1).toNat:Int)+1-1).toNat)=(m-1).toNat by lia,e] at this;exact this
   .unfold lean;rw[if_pos h1,List.getElem?_eq_none (by rw[List.length_map];lia)];exact aes _
  .unfold lean;rw[if_neg h1];exact aes _
theorem YN(h:Row C row):gb (C++[c]) row=gb C row:=agc λx m=>by
 unfold dM;rw[P1 (h x m).1 (h x m).2]
theorem WV(i:Gi k g)(hc:Gc g.C.length c)(hl:g.C.length<60):∃ld gr,Qk (gD g) [.int c.1,iL c.2.1,eL c.2.2]=some (.int (g.C.length+1),gD (dD { vH g c with ld:=ld,gr:=gr }))/\Gi k (dD { vH g c with ld:=ld,gr:=gr }):=by
 have v:=i.gd;have lc:(g.C++[c]).length=g.C.length+1:=by rw[abN];rfl
 have v':Gd (vH g c):=⟨v.w1,v.h1,v.nt,adR v.gc hc hl,(λx m=>by have:=v.row x m;show 1<=x/\x<=(((g.C++[c]).length:Nat):Int);rw[lc];lia),v.nd,v.su,v.j8,⟨v.gr.im,v.gr.nd,(λq m=>by
  obtain⟨x,e,mx⟩:=v.gr.ks q m;have:=je.mp mx;exact⟨x,e,je.mpr (show 1<=x/\x<1+(((g.C++[c]).length:Nat):Int) by rw[lc];lia)⟩),v.gr.tp⟩,by
  obtain⟨w,h⟩:=v.run;exact⟨w,(congrArg (f6 []) (YN v.row)).trans h⟩⟩
 have t:=i.gt;obtain⟨ld,gr,e,i'⟩:=uQ v' ⟨t.tn,t.tl,t.yl,t.em,t.el,t.gl,t.lg,t.st,t.ll⟩;exact⟨ld,gr,adY (by have:=hc.few;lia) (by have:=hc.ee.ed.ln;lia) hc.ok hl e,i'⟩
theorem adb(i:Gi k g)(hk:k<=4000){L:List Int}(hL:L∈g.lk)(hw:w∈(["yes","no","unsure"]:List Str)):∃ld gr,R0 (gD g) [tD L,.str w]=some (.str (word g.n g.t (hd g.ta L++[w])),gD (dD { aV g L w with ld:=ld,gr:=gr }))/\Gi (k+1) (dD { aV g L w with ld:=ld,gr:=gr }):=by
 obtain⟨p,p1,p2,p3,eL,hm⟩:=i.mem hL;have MQ:L.length=g.ln.length+p:=by rw[eL,qN p3]
 have nL:L≠[]:=λe=>by rw[e] at MQ;simp at MQ;lia
 have t:=i.gt;have v:=i.gd;have fa:=λ(g3:G) (hs:m5 (gD (aV g L w)) []=some (.aA,gD g3))=>Yo hL nL v t.tn (adE t.tl (by lia)) hw hm t.em (adE t.el (by lia)) (adE t.gl (by lia)) (by lia) (by lia) hs
 have zV:aN (jf g L w).en=true/\(jf g L w).en.length<=k+1:=by
  unfold jf;dsimp only
  split
  .exact⟨t.em,by have:=t.el;lia⟩
  .refine⟨xZ.mpr λd m=>?_,by rw[abN];have:=t.el;simp;lia⟩;rcases abE.mp m with m|m
   .exact xZ.mp t.em d m
   .rw[aa3.mp m];unfold tD;simp only[aC,aN,eO,afH]
 have L8:(jf g L w).ta.length<=k+1:=adE Km (by have:=t.tl;lia);have NH:((jf g L w).ta.map (·.1)).Nodup:=Gu t.tn;have v1:Gd (jf g L w):=v.re _ g.lk g.ht g.gw _ _ g.br
 by_cases hy:word g.n g.t (hd g.ta L++[w])="yes"
 .have e2:aV g L w=uC (jf g L w) L:=by unfold aV;rw[hy];rfl
  have dp:L.length-g.ln.length=p:=by lia
  have ea:L++g.ld.drop p=g.ln++g.ld:=by rw[eL];unfold cQ;rw[afi,List.take_append_drop]
  have v2:Gd (uC (jf g L w) L):=by
   refine⟨v.w1,v.h1,v.nt,v.gc,?_,?_,?_,?_,v.gr,?_⟩
   .show Row g.C (L++g.ld.drop (L.length-g.ln.length));rw[dp,ea];exact v.row
   .show(L++g.ld.drop (L.length-g.ln.length)).Nodup;rw[dp,ea];exact v.nd
   .show((g.ld.drop (L.length-g.ln.length)).length:Int)<=g.w;rw[List.length_drop];have:=v.su;lia
   .show ∀x∈L++g.ld.drop (L.length-g.ln.length),gZ g x=false;rw[dp,ea];exact v.j8
   .show ∃v,f6 [] (gb g.C (L++g.ld.drop (L.length-g.ln.length)))=some v;rw[dp,ea];exact v.run
  obtain⟨ld,gr,e,i'⟩:=uQ v2 ⟨NH,L8,(λl hl=>by
   have hl:word g.n g.t (hd (gp g.ta L (hd g.ta L++[w])) l)="yes":=hl;rw[Gn] at hl;show l.length<=L.length
   split at hl
   .rename_i q;rw[q];exact abT _
   .have:=t.yl l hl;lia),zV.1,zV.2,(by show(g.gw++[L]).length<=k+1;rw[abN];have:=t.gl;simp;lia),(by show(g.gw++[L]).getLastD []=L;rw[List.getLastD_concat]),(λq=>by
   show g.ld.drop _=[];rw[t.st q,List.drop_nil]),t.ll⟩
  exact⟨ld,gr,fa _ (by rw[e2];exact e),by rw[e2];exact i'⟩
 .have e2:aV g L w=jf g L w:=by
   unfold aV;rw[if_neg (by simpa using hy)]
  obtain⟨ld,gr,e,i'⟩:=uQ v1 ⟨NH,L8,(λl hl=>by
   have hl:word g.n g.t (hd (gp g.ta L (hd g.ta L++[w])) l)="yes":=hl;rw[Gn] at hl
   split at hl
   .exact absurd hl hy
   .exact t.yl l hl),zV.1,zV.2,(by have:=t.gl;show g.gw.length<=k+1;lia),t.lg,t.st,t.ll⟩
  exact⟨ld,gr,fa _ (by rw[e2];exact e),by rw[e2];exact i'⟩
def Wq(Q:Out->Prop)(o:Option Out):Prop:=∃r,o=some r/\Q r
section
variable{sf sg:SF}
theorem gu(h:sf ρ=some (.nx ρ'))(k:Wq Q (sg ρ')):Wq Q (b7 sf sg ρ):=let⟨x,e,p⟩:=k;⟨x,sq h e,p⟩
theorem wn(h:sf ρ=some (.nx ρ'))(k:Wq Q (sg ρ')):Wq Q (b7 (jn sf) sg ρ):=gu (iK h) k
theorem fG(h:f ρ=some (d,t))(k:Wq Q (sg (iB ρ i d t))):Wq Q (b7 (dG i f) sg ρ):=gu (by rw[j9,h];rfl) k
theorem vN(h:f ρ=some (d,t))(k:Wq Q (sg (iB ρ i d t))):Wq Q (b7 (jn (dG i f)) sg ρ):=wn (by rw[j9,h];rfl) k
theorem gq(ρ':aO)(k:Wq Q (sg ρ'))(e:ρ=ρ':=by rfl):Wq Q (sg ρ):=e ▸ k
theorem ue(h:tf ρ=some b)(h1:b=true->Wq Q (sf ρ))(h2:b=false->Wq Q (sg ρ)):Wq Q (eX tf sf sg ρ):=by
 rw[ja,h];cases b with
 |true=>exact h1 rfl
 |false=>exact h2 rfl
theorem Qa(I:Nat->aO->Prop)(h0:I 0 ρ)(st:∀j ρ d,ds[j]? = some d->I j ρ->∃aS,g d t ρ=some aS/\Wq (λr=>∃bh,r=.nx bh/\I (j+1) bh) (sf aS)):∃ρ',dh g t sf ds ρ=some (.nx ρ')/\I ds.length ρ':=by
 obtain⟨ρ',lp,h⟩:=Ni I h0 (λj ρ d hd h=>by
  rw[aha] at h ⊢;obtain⟨aS,e1,_,e2,bh,rfl,h2⟩:=st j ρ d hd h;exact⟨aS,bh,e1,.inl e2,h2⟩)
 rw[aha] at h;exact⟨ρ',lp,h⟩
theorem Nd(I:Nat->aO->Prop)(hi:it ρ=some ((b_ a n).map D.int,.own))(h0:I 0 ρ)(st:∀j ρ,j<n->I j ρ->∃aS,gN x (.int (a+j)) (.sh []) ρ=some aS/\Wq (λr=>∃bh,r=.nx bh/\I (j+1) bh) (sf aS))(k:∀ρ',I n ρ'->Wq Q (sg ρ')):Wq Q (b7 (jk it (gN x) sf) sg ρ):=by
 obtain⟨ρ',e,h⟩:=Qa (ds:=(b_ a n).map D.int) I h0 (λj ρ d hd h=>by
  unfold b_ at hd;rw[ac4,aco] at hd;obtain⟨y,hy,rfl⟩:=acq.mp hd;obtain⟨hj,e⟩:=abL.mp hy;rw[ahk] at hj;rw[List.getElem_range] at e;subst e;exact st j ρ hj h)
 rw[List.length_map,mY] at h;exact gu (vK hi e) (k ρ' h)
theorem wj{I:aO->Prop}(h:Wq (λr=>∃ρ',r=.nx ρ'/\I ρ') (sf ρ))(k:∀ρ',I ρ'->Wq Q (sg ρ')):Wq Q (b7 sf sg ρ):=let⟨_,e,ρ',e2,p⟩:=h;gu (e.trans (by rw[e2])) (k ρ' p)
theorem ZF{I:aO->Prop}(h:Wq (λr=>∃ρ',r=.nx ρ'/\I ρ') (sf ρ))(k:∀ρ',I ρ'->Wq Q (sg ρ')):Wq Q (b7 (jn sf) sg ρ):=let⟨_,e,ρ',e2,p⟩:=h;wn (e.trans (by rw[e2])) (k ρ' p)
theorem qJ{P:D->Prop}(hl:ds.length=n)(h:Wq (λr=>∃d,r=.rt d/\P d) (B (uJ N ds))):∃d,bJ n N B ds=some d/\P d:=let⟨_,e,d,h,p⟩:=h;⟨d,cu hl (e.trans (by rw[h])),p⟩
theorem DI{P:D->List D->Prop}(hl:ds.length=n)(h:Wq (λr=>(∃a es,r=.rt (.tup (a::es))/\P a es)\/∃ρ es,r=.nx ρ/\j6 J ρ=some es/\P .aA es) (B (mL J 0 ds++List.replicate (N-ds.length) none))):∃a es,mV J n N B ds=some (a,es)/\P a es:=by
 obtain⟨r,e,h⟩:=h;unfold mV;rw[if_pos hl,e];rcases h with⟨a,es,rfl,p⟩|⟨ρ,es,rfl,ho,p⟩
 .exact⟨a,es,rfl,p⟩
 .dsimp only;rw[ho];exact⟨.aA,es,rfl,p⟩
theorem Mp(hg:g ρ=some ps)(hF:F (ps.map (·.1))=some (r,es))(ha:pG js sl ps=true:=by rfl):A1 js sl F g ρ=some (.ok r (lT ρ js es)):=by
 unfold A1 xJ;rw[hg];dsimp only;rw[if_pos ha,hF];rfl
theorem ab9(hg:g ρ=some ps)(hF:F (ps.map (·.1))=some (r,es))(ha:pG js sl ps=true:=by rfl):xJ js sl F g ρ=some (r,lT ρ js es):=by
 unfold xJ;rw[hg];dsimp only;rw[if_pos ha,hF];rfl
theorem FH(h:f ρ=some (.ok d ρ')):yo i f ρ=some (.nx (iB ρ' i d .own)):=by unfold yo;rw[h]
end
theorem aeR:abu [gD g]=some (iL g.ln):=cu rfl (cK (bf (fl rfl) uY))
theorem JO:Mn [gD g]=some (iL g.ld):=cu rfl (cK (bf (fl rfl) uY))
theorem Ip:V1 [gD g]=some (.lst (bS g.lk)):=cu rfl (cK (bf (fl (d:=.lst (bS g.lk)) rfl) (if_pos (Gm _))))
theorem Dm:Yp [gD g]=some (.bl g.ht):=cu rfl (by rw[A5,fl rfl];rfl)
theorem U4:Tt [gD g]=some (.lst (bS g.gw)):=cu rfl (cK (bf (fl (d:=.lst (bS g.gw)) rfl) (if_pos (Gm _))))
theorem Sz(h:aN g.en=true):aev [gD g]=some (.lst g.en):=cu rfl (cK (bf (fl (d:=.lst g.en) rfl) (if_pos h)))
noncomputable def g0(w h n t:Int):G:=⟨w,h,n,t,[],[],[],[],[],[],false,[],[],0,0⟩
theorem S3(hw:1<=w/\w<=16)(hh:1<=h/\h<=8)(nt:1<=n/\n<=t/\t<=20):Oo (.ins "Gate" []) [.int w,.int h,.int n,.int t]=some (.aA,gD (g0 w h n t)):=by
 have q:∀{i} {v b},aj i [some (.ins "Gate" [],.own),some (.int w,.sh []),some (.int h,.sh []),some (.int n,.sh []),some (.int t,.sh [])]=some (.int v,.sh [])->1<=v/\v<=b->tV (cO mJ (ay (aj i) (ay (eC (.int 1)) (ay (eC (.int b)) aJ)))) [some (.ins "Gate" [],.own),some (.int w,.sh []),some (.int h,.sh []),some (.int n,.sh []),some (.int t,.sh [])]=some true:=λh hb=>(wZ h).trans (by unfold inR;rw[aa1 hb.1,aa1 hb.2];rfl)
 refine qA (ρ:=[some (gD (g0 w h n t),.own),some (.int w,.sh []),some (.int h,.sh []),some (.int n,.sh []),some (.int t,.sh [])]) rfl (dg (kN ((N_ (q rfl hw)).trans ((N_ (q rfl hh)).trans (bx (cR (ps:=[(.int n,.sh []),(.int t,.sh [])]) rfl (QB nt)))))) ?_) rfl
 kernel_rfl
theorem gi0(hw:1<=w/\w<=16)(hh:1<=h/\h<=8)(nt:1<=n/\n<=t/\t<=20):Gi 0 (g0 w h n t):=by
 refine⟨⟨hw,hh,nt,⟨aes _,λm=>Ee.nil,λm x h1 h2=>?_,λm=>?_⟩,(λx m=>nomatch m),.nil,?_,(λx m=>nomatch m),⟨rfl,.nil,(λk m=>nomatch m),λp m=>nomatch m⟩,[],rfl⟩,⟨.nil,abT _,λl hl=>?_,rfl,abT _,abT _,rfl,λ_=>rfl,?_⟩,⟨(λx m=>nomatch m),λ_=>⟨(λe=>nomatch e),λ_=>rfl,λ_=>.inr λx m=>nomatch m⟩⟩,[],⟨.nil,λx m=>nomatch m⟩,?_,?_,rfl⟩
 .have h2:m<=((0:Nat):Int):=h2
  lia
 .unfold lean;split<;>exact aes _
 .show((0:Nat):Int)<=w;lia
 .rw[show hd (g0 w h n t).ta l=[] from rfl,show word (g0 w h n t).n (g0 w h n t).t []="more" from Py nt] at hl;exact absurd hl (by decide +kernel)
 .show((0:Nat):Int)<=h;lia
 .show lim ((0:Nat)+1:Int) h<=((0:Nat):Int);unfold lim;split<;>lia
 .show((0:Nat):Int)<=h;lia
noncomputable def dI(ns:List Int):D:=.gG (ns.map D.int)
noncomputable def wo(ns:List Int)(k:Int):Int:=if 0<ns.length then ns.getD (k % ns.length).toNat 0 else 0
def jE(ns:List Int)(k p m:Int):Int:=((wo ns k+k*k)*48271+11) % p % m
theorem ou(hm:0<m):0<=jE ns k p m/\jE ns k p m<m:=⟨Int.emod_nonneg _ (by omega),Int.emod_lt_of_pos _ hm⟩
theorem vq(h:-(2 ^ 64)<j/\j<2 ^ 64):sL i j=true:=by unfold sL;rw[aa1 h.1,aa1 h.2];simp
theorem HA:d7 (dI ns)=some (.int ns.length):=by unfold dI;show some (D.int (ns.map D.int).length)=_;rw[List.length_map]
theorem Yd(hk:0<=k/\k<=100000)(hp:0<p)(hm:0<m):rH [dI ns,.int k,.int p,.int m]=some (.int (jE ns k p m)):=by
 have e:∃d,rH [dI ns,.int k,.int p,.int m]=some d/\d=.int (jE ns k p m):=by
  refine qJ rfl (fG rfl (gq [some (dI ns,.sh []),some (.int k,.sh []),some (.int p,.sh []),some (.int m,.sh []),some (.int 0,.own)] ?_));refine wj (I:=λρ=>ρ=[some (dI ns,.sh []),some (.int k,.sh []),some (.int p,.sh []),some (.int m,.sh []),some (.int (wo ns k),.own)]) ?_ λρ e=>?_
  .refine ue (bx (aK (bf rfl HA) rfl rfl)) (λh=>?_) λh=>?_
   .have h:=abd h;have h0:=Int.emod_nonneg k (show(ns.length:Int)≠0 by omega);have h1:=Int.emod_lt_of_pos k h;have hx:e2 dZ (aj 0) (e2 oMod (aj 1) (e1 d7 (aj 0))) [some (dI ns,.sh []),some (.int k,.sh []),some (.int p,.sh []),some (.int m,.sh []),some (.int 0,.own)]=some (.int (wo ns k),.own):=aK rfl (aK rfl (bf rfl HA) (x9 h)) (acK (by
     unfold wo;rw[if_pos (by omega)];exact P9 h0 (by omega)) rfl)
    exact⟨_,by rw[j9,hx];rfl,_,rfl,rfl⟩
   .have h:=of_decide_eq_false h;refine⟨_,rfl,_,rfl,?_⟩;unfold wo;rw[if_neg (by omega)]
  .subst e;exact⟨_,cK (aK (aK (aK (aK (aK rfl (aK rfl rfl (uN (vq (by omega)))) ly) rfl (uN (vq (by omega)))) rfl ly) rfl (x9 hp)) rfl (x9 hm)),_,rfl,rfl⟩
 obtain⟨_,e,rfl⟩:=e;exact e
theorem dr(h0:fs ρ=some (dI ns,t0))(h1:fk ρ=some (.int k,t1))(h2:fp ρ=some (.int p,t2))(h3:fm ρ=some (.int m,t3))(hk:0<=k/\k<=100000)(hp:0<p)(hm:0<m):cO rH (ay fs (ay fk (ay fp (ay fm aJ)))) ρ=some (.int (jE ns k p m),.own):=
 cR (ps:=[(dI ns,t0),(.int k,t1),(.int p,t2),(.int m,t3)]) (by rw[aX,aX,aX,aX,h0,h1,h2,h3];rfl) (Yd hk hp hm)
theorem B0(h:f ρ=some (.int x,t)):e2 iM (eC (.int a)) f ρ=some (.int (a+x),.own):=aK rfl h ly
noncomputable def b8(w h n t:Int):D:=.tup [.int w,.int h,.int n,.int t]
theorem UT(hm:1<=m):∃d,afZ [dI ns,.int m]=some d/\∃w h n t,d=b8 w h n t/\(1<=w/\w<=m)/\(1<=h/\h<=8)/\1<=n/\n<=t/\t<=4:=by
 have b1:=ou (ns:=ns) (k:=51) (p:=10499) (m:=m) (by omega);have b2:=ou (ns:=ns) (k:=52) (p:=10501) (m:=8) (by omega);have b4:=ou (ns:=ns) (k:=54) (p:=10529) (m:=2) (by omega);have b5:=ou (ns:=ns) (k:=55) (p:=10531) (m:=3) (by omega);refine qJ rfl (fG (B0 (dr rfl rfl rfl rfl (by omega) (by omega) (by omega))) (fG (B0 (dr rfl rfl rfl rfl (by omega) (by omega) (by omega))) ?_));generalize jE ns 51 10499 m=x1 at b1 ⊢;generalize jE ns 52 10501 8=x2 at b2 ⊢;refine gq [some (dI ns,.sh []),some (.int m,.sh []),some (.int (1+x1),.own),some (.int (1+x2),.own),none] ?_;refine wj (I:=λρ=>∃h,ρ=[some (dI ns,.sh []),some (.int m,.sh []),some (.int (1+x1),.own),some (.int h,.own),none]/\1<=h/\h<=8) (ue (bx (aK (dr rfl rfl rfl rfl (by omega) (by omega) (by omega)) rfl rfl)) (λ_=>⟨_,rfl,_,rfl,1,rfl,by omega⟩) λ_=>⟨_,rfl,_,rfl,1+x2,rfl,by omega⟩) λρ ⟨h,e,hh⟩=>?_
 subst e;refine fG (B0 (dr rfl rfl rfl rfl (by omega) (by omega) (by omega))) ?_;generalize jE ns 54 10529 2=x4 at b4 ⊢;refine gq [some (dI ns,.sh []),some (.int m,.sh []),some (.int (1+x1),.own),some (.int h,.own),some (.int (1+x4),.own)] ?_;have q:=dr (ρ:=[some (dI ns,.sh []),some (.int m,.sh []),some (.int (1+x1),.own),some (.int h,.own),some (.int (1+x4),.own)]) (fs:=aj 0) (fk:=eC (.int 55)) (fp:=eC (.int 10531)) (fm:=eC (.int 3)) rfl rfl rfl rfl (by omega) (by omega) (by omega);generalize jE ns 55 10531 3=x5 at b5 q;refine⟨.rt (b8 (1+x1) h (1+x4) (1+x4+x5)),?_,_,rfl,_,_,_,_,rfl,by omega,hh,by omega⟩;have q2:e2 iM (aj 4) (cO rH (ay (aj 0) (ay (eC (.int 55)) (ay (eC (.int 10531)) (ay (eC (.int 3)) aJ))))) [some (dI ns,.sh []),some (.int m,.sh []),some (.int (1+x1),.own),some (.int h,.own),some (.int (1+x4),.own)]=some (.int (1+x4+x5),.own):=aK rfl q ly;rw[A5,rT,aX,aX,aX,aX,q2];rfl
abbrev N3:=List (Int×Ed)
def nD(N:N3):D:=.bP (N.map λp=>((Sum.inl p.1:Key),dT p.2))
structure Eo(p:Ed):Prop where
 s:0<=p.1/\p.1<=4
 o:0<=p.2.1/\p.2.1<=4
 n:0<=p.2.2/\p.2.2<=4
 d:p.2.1≠p.2.2
structure Nk(j:Nat)(N:N3):Prop where
 nd:(N.map (·.1)).Nodup
 ok:∀q∈N,q.2.1=q.1/\Eo q.2
 ln:N.length<=j
theorem Nk.put(h:Nk j N)(e:Eo p):Nk (j+1) (gp N p.1 p):=⟨Gu h.nd,λq m=>(NY m).elim (h.ok q) λz=>by rw[z];exact⟨rfl,e⟩,adE Km (by have:=h.ln;lia)⟩
structure Sv(es:iu):Prop where
 kb:Kb es
 bd:∀k,0<=gV es k/\gV es k<=4
structure Eg(E:List Ed):Prop where
 inc:(E.map (·.1)).Pairwise (· < ·)
 ok:∀p∈E,Eo p
 few:E.length<=3
theorem Eg.ee(g:Eg E):Ee E:=⟨⟨g.inc.imp λh=>by lia,by have:=g.few;lia⟩,g.inc.imp λh=>by lia,λp m=>je.mpr (by have:=(g.ok p m).s;lia)⟩
theorem acu(N:N3):aN ((N.map λp=>((Sum.inl p.1:Key),dT p.2)).map (·.2))=true:=xZ.mpr λd m=>by
 rw[ac4] at m;obtain⟨q,_,rfl⟩:=abX.mp m;rfl
theorem M6:∀N:N3,jz (N.map λp=>((Sum.inl p.1:Key),dT p.2))=some (N.map (·.1))
 |[]=>rfl
 |q::r=>by
  rw[aas];show(jz (r.map λp=>((Sum.inl p.1:Key),dT p.2))).map _=_;rw[M6 r];rfl
theorem Ym{N:N3}(m:s∈N.map (·.1)):∃p,gv N s=some p/\(s,p)∈N:=by
 unfold gv;obtain⟨q,mq,e⟩:=abX.mp m;cases h:N.find? λkv=>decide (kv.1=s) with
 |none=>exact absurd (aa1 e) (afE.mp h q mq)
 |some z=>
  have h1:=abd (ahg (p:=λkv:Int×Ed=>decide (kv.1=s)) h);exact⟨z.2,rfl,h1 ▸ agH h⟩
theorem Jc(hk:0<=k/\k<=100000)(hp:0<p)(hm:0<m):∃v,(0<=v/\v<m)/\jE ns k p m=v:=⟨_,ou hm,rfl⟩
def rD(ns:List Int)(k:Int)(es:iu)(N:N3)(s4 s5 s6 s7:Slot):aO:=[some (dI ns,.sh []),some (.int k,.sh []),some (bK es,.sh []),some (nD N,.own),s4,s5,s6,s7]
theorem aeH(hk:0<=k/\k<=100)(sv:Sv es):∃d,Sa [dI ns,.int k,bK es]=some d/\∃E,d=eL E/\Eg E:=by
 obtain⟨c,bc,ec⟩:=Jc (k:=k) (p:=10559) (m:=4) (by lia) (by lia) (by lia);have hc:=dr (ρ:=rD ns k es [] none none none none) (fs:=aj 0) (fk:=aj 1) (fp:=eC (.int 10559)) (fm:=eC (.int 4)) rfl rfl rfl rfl (by lia) (by lia) (by lia);rw[ec] at hc;obtain⟨n,rfl⟩:∃n:Nat,c=n:=⟨c.toNat,by lia⟩
 refine qJ rfl (fG rfl (gq (rD ns k es [] none none none none) ?_));refine Nd (λj ρ=>∃N s4 s5 s6 s7,ρ=rD ns k es N s4 s5 s6 s7/\Nk j N) (Q4 hc (by lia)) ⟨[],_,_,_,_,rfl,.nil,(λq m=>nomatch m),abT _⟩ (λj ρ hj ⟨N,s4,s5,s6,s7,e,nk⟩=>?_) λρ ⟨N,s4,s5,s6,s7,e,nk⟩=>?_
 .subst e;rw[Int.zero_add];have hj:j<4:=by lia
  refine⟨rD ns k es N (some (.int j,.sh [])) s5 s6 s7,rfl,?_⟩;obtain⟨s,bs,e⟩:=Jc (k:=k+7*j) (p:=10567) (m:=5) (by lia) (by lia) (by lia);refine fG (dr rfl (aK rfl (aK rfl rfl (uN (vq (by lia)))) ly) rfl rfl (by lia) (by lia) (by lia)) ?_;rw[e];refine fG (by rw[Kv];show(tE (bK es) (.int s) (.int 0)).map _=_;rw[RO];rfl) (gq (rD ns k es N (some (.int j,.sh [])) (some (.int s,.own)) (some (.int (gV es s),.own)) s7) ?_);have kj:∀s6 s7,e2 iM (aj 1) (aj 4) (rD ns k es N (some (.int j,.sh [])) (some (.int s,.own)) s6 s7)=some (.int (k+j),.own):=λ_ _=>aK rfl rfl ly
  refine wj (I:=λρ=>∃o,ρ=rD ns k es N (some (.int j,.sh [])) (some (.int s,.own)) (some (.int o,.own)) s7/\0<=o/\o<=4) (ue (bx (aK (dr rfl (kj _ _) rfl rfl (by lia) (by lia) (by lia)) rfl rfl)) (λ_=>?_) λ_=>⟨_,rfl,_,rfl,_,rfl,sv.bd s⟩) λρ ⟨o,e,ho⟩=>?_
  .have b:=ou (ns:=ns) (k:=k+j) (p:=10597) (m:=3) (by lia);exact⟨_,by rw[j9,dr rfl (kj _ _) rfl rfl (by lia) (by lia) (by lia)];rfl,_,rfl,_,rfl,b.1,by lia⟩
  subst e;obtain⟨v,bv,e⟩:=Jc (k:=k+3*j) (p:=10601) (m:=4) (by lia) (by lia) (by lia);refine fG (dr rfl (aK rfl (aK rfl rfl (uN (vq (by lia)))) ly) rfl rfl (by lia) (by lia) (by lia)) ?_;rw[e];refine gq (rD ns k es N (some (.int j,.sh [])) (some (.int s,.own)) (some (.int o,.own)) (some (.int v,.own))) ?_;refine wj (I:=λρ=>∃z,ρ=rD ns k es N (some (.int j,.sh [])) (some (.int s,.own)) (some (.int o,.own)) (some (.int z,.own))/\(0<=z/\z<=4)/\o≠z) (ue rfl (λh=>⟨_,rfl,_,rfl,o+1,rfl,by have:=eq_of_beq h;lia,by lia⟩) λh=>⟨_,rfl,_,rfl,v,rfl,by lia,λq=>by rw[q] at h;simp at h⟩) λρ ⟨z,e,hz,ne⟩=>?_
  subst e;have nk':=nk.put (p:=(s,o,z)) ⟨by show 0<=s/\s<=4;lia,ho,hz,ne⟩;refine⟨.nx (rD ns k es (gp N s (s,o,z)) (some (.int j,.sh [])) (some (.int s,.own)) (some (.int o,.own)) (some (.int z,.own))),?_,_,rfl,_,_,_,_,_,rfl,nk'⟩;show(if(aC (dT (s,o,z))&&aN ((N.map λp=>((Sum.inl p.1:Key),dT p.2)).map (·.2))&&decide ((N.map λp=>((Sum.inl p.1:Key),dT p.2)).length<sizeLine))=true then some (Out.nx (bT _ 3 (.bP (putD (N.map λp=>((Sum.inl p.1:Key),dT p.2)) (Sum.inl s:Key) (dT (s,o,z)))))) else none)=_;rw[if_pos (by rw[acu,List.length_map,aa1 (size_le (by have:=nk.ln;lia))];rfl),G5 (φ:=(Sum.inl:Int->Key)) (ψ:=dT) λa b=>ahh];rfl
 .subst e;have hn:=nk.ln;have hs:e1 mS (aj 3) (rD ns k es N s4 s5 s6 s7)=some (iL (dQ (N.map (·.1))),.own):=bf rfl (by
   show(match jz (N.map λp=>((Sum.inl p.1:Key),dT p.2)) with|some ns=>if ns.length<64 then some (D.lst ((dQ ns).map D.int)) else none|none=>none)=_;rw[M6];dsimp only;rw[if_pos (by rw[List.length_map];lia)];rfl)
  have hv:∀x∈dQ (N.map (·.1)),∃p,gv N x=some p/\p.1=x/\Eo p:=λx mx=>by
   obtain⟨p,h1,h2⟩:=Ym (JM.mp mx);exact⟨p,h1,nk.ok _ h2⟩
  have hc:=jQ (js:=[none,some 3]) (g:=gN 0) (tt:=um) (te:=e2 oi (aj 1) (aj 0)) (k:=λd=>match d with | .int x=>(gv N x).map dT | _=>none) (gW hs) (by rw[List.length_map,Ci,List.length_map];exact size_le (by lia)) (λd m=>by
   exists 78;obtain⟨p,h1,_⟩:=hv x mx;show _=some ((gv N x).map dT);rw[h1];exact qQ rfl rfl (aK rfl rfl (by
    show(bB (N.map λp=>((Sum.inl p.1:Key),dT p.2)) (Sum.inl x:Key)).bind _=_;rw[zB (φ:=(Sum.inl:Int->Key)) (ψ:=dT) λa b=>ahh,h1];rfl)))
  have he:((dQ (N.map (·.1))).map D.int).filterMap (λd=>match d with|.int x=>(gv N x).map dT|_=>none)=((dQ (N.map (·.1))).filterMap λx=>gv N x).map dT:=by
   rw[aeN,List.map_filterMap];rfl
  rw[he] at hc;refine⟨_,cK hc,_,rfl,_,rfl,?_,λp m=>?_,?_⟩
  .have e1:((dQ (N.map (·.1))).filterMap λx=>gv N x).map (·.1)=dQ (N.map (·.1)):=by
    have:∀l:List Int,(∀x∈l,∃p,gv N x=some p/\p.1=x/\Eo p)->(l.filterMap λx=>gv N x).map (·.1)=l:=λl=>by
     induction l with
     |nil=>intro _;rfl
     |cons x r ih=>
      intro h;obtain⟨p,h1,h2,_⟩:=h x aar;rw[aen,h1];dsimp only;rw[aas,h2,ih λy m=>h y (aaa _ m)]
    exact this _ hv
   rw[e1];exact Zr nk.nd
  .obtain⟨x,mx,e⟩:=agr.mp m;obtain⟨q,h1,_,h3⟩:=hv x mx;rw[h1] at e;cases e;exact h3
  .have:=List.length_filterMap_le (λx=>gv N x) (dQ (N.map (·.1)));rw[Ci,List.length_map] at this
   lia
def rS(ns:List Int)(k:Int)(es:iu)(m:Int)(s4 s5 s6 s7 s8:Slot):aO:=[some (dI ns,.sh []),some (.int k,.sh []),some (bK es,.own),some (.int m,.sh []),s4,s5,s6,s7,s8]
def rO(c:Ch):D:=.tup [.int c.1,iL c.2.1,eL c.2.2]
theorem Sv.eS(s:Sv es)(g:Eg E):Sv (eS es E):=by
 refine⟨s.kb.eS g.ee,λk=>?_⟩;obtain⟨g1,g2⟩:=CM E es k g.ee.nd
 by_cases mj:k∈E.map (·.1)
 .obtain⟨p,mp,rfl⟩:=abX.mp mj;unfold gV;rw[g1 p mp rfl];exact(g.ok p mp).n
 .unfold gV;rw[g2 mj];exact s.bd k
theorem Tv(h:Eo p):qK p=true:=by
 have h1:=h.s;have h2:=h.o;have h3:=h.n;unfold qK inR;rw[aa1 h1.1,aa1 (show p.1<=999 by lia),aa1 h2.1,aa1 (show p.2.1<=1000000000 by lia),aa1 h3.1,aa1 (show p.2.2<=1000000000 by lia),show(p.2.1==p.2.2)=false from by simpa using h.d];rfl
theorem V9{m:Nat}(hk:0<=k/\k<=100)(sv:Sv es)(hm:m<=60):∃a e,MP [dI ns,.int k,bK es,.int m]=some (a,e)/\∃c,a=rO c/\e=[bK (eS es c.2.2)]/\Gc m c/\Eg c.2.2:=by
 refine DI rfl (vN rfl (gq (rS ns k es m (some (iL [],.own)) none none none none) ?_));refine ZF (I:=λρ=>∃l:List Int,ρ=rS ns k es m (some (iL l,.own)) none none none none/\l.Pairwise (· < ·)/\(∀x∈l,1<=x/\x<=(m:Int))/\l.length<=60) (ue (bx (aK (dr rfl rfl rfl rfl (by lia) (by lia) (by lia)) rfl rfl)) (λ_=>?_) λ_=>⟨_,rfl,_,rfl,[],rfl,.nil,(λx m=>nomatch m),by simp⟩) λρ ⟨l,e,l1,l2,l3⟩=>?_
 .have hi:pK (eC (.int 1)) (e2 iM (aj 3) (eC (.int 1))) (rS ns k es m (some (iL [],.own)) none none none none)=some ((b_ 1 m).map D.int,.own):=by
   rw[AA rfl rfl (nV (by lia) (by lia)) (nV (by lia) (by lia)),show((m:Int)+1-1).toNat=m by lia]
  have hc:=yG (js:=[none,some 0,some 1]) (tt:=tV (e2 oEq (cO rH (ay (aj 1) (ay (e2 iM (aj 2) (e2 wm (eC (.int 5)) (aj 0))) (ay (eC (.int 10613)) (ay (eC (.int 4)) aJ))))) (eC (.int 0)))) hi (by rw[mY];lia) (λx=>rfl) (λx mx=>by
   have:=je.mp mx;exact bx (aK (dr rfl (aK rfl (aK rfl rfl (uN (vq (by lia)))) ly) rfl rfl (by lia) (by lia) (by lia)) rfl rfl))
  refine⟨_,by rw[j9,hc];rfl,_,rfl,_,rfl,(zQ 1 m).sublist aeY,λx mx=>by have:=je.mp (acL.mp mx).1;lia,?_⟩;have:=ae5 (λx=>jE ns (k+5*x) 10613 4==0) (b_ 1 m);rw[mY] at this
  lia
 subst e;obtain⟨_,fE,E,rfl,gE⟩:=aeH hk sv;have b:=ou (ns:=ns) (k:=k) (p:=10627) (m:=10) (by lia);have hd:=dr (ρ:=rS ns k es m (some (iL l,.own)) none none none none) (fs:=aj 0) (fk:=aj 1) (fp:=eC (.int 10627)) (fm:=eC (.int 10)) rfl rfl rfl rfl (by lia) (by lia) (by lia);generalize jE ns k 10627 10=r at b hd;have ht:CP (cO rH (ay (aj 0) (ay (aj 1) (ay (eC (.int 10627)) (ay (eC (.int 10)) aJ))))) 4 (cO Sa (ay (aj 0) (ay (aj 1) (ay (aj 2) aJ)))) (rS ns k es m (some (iL l,.own)) none none none none)=some (.ok (rO (r,l,E)) (rS ns k es m none none none none none)):=by
  unfold CP;rw[hd,cR rfl fE];rfl
 refine wn (FH ht) (gq (rS ns k es m none (some (rO (r,l,E),.own)) none none none) ?_);have kl:=sv.kb.len;have el:=gE.few;obtain⟨t6,t7,t8,lp⟩:=Bb (g:=gT (ez (gN 6) (ez (gN 7) (ez (gN 8) lS)))) (f:=qT 2 (aj 6) (aj 8)) (λv x y z=>rS ns k v m none (some (rO (r,l,E),.lk)) x y z) (λ_ _ _ _ _=>rfl) (λv p h=>GQ rfl rfl rfl h) (E:=E) (v:=es) (by lia);refine wn (vz rfl lp) (gq (rS ns k (eS es E) m none (some (rO (r,l,E),.own)) t6 t7 t8) ?_);refine⟨_,rfl,.inl ⟨_,_,rfl,(r,l,E),rfl,rfl,⟨gE.ee,l2,l3,?_⟩,gE⟩⟩;unfold vP xY inR;rw[aa1 b.1,aa1 (show r<=9 by lia),C5 l1,C5 gE.inc,ada.mpr (λp mp=>Tv (gE.ok p mp)),aa1 (show(E.length:Int)<=20 by lia),ada.mpr (λx mx=>by rw[aa1 (l2 x mx).1,aa1 (l2 x mx).2];rfl)];rfl
theorem Wf(ht:0<=t/\t<=100000):∃d,afD [dI ns,tD l,.int t]=some d/\∃w:Str,d=.str w/\w∈(["yes","no","unsure"]:List Str):=by
 refine qJ rfl (fG rfl ?_);obtain⟨ρ',lp,x,tg,s4,e,hx⟩:=Qa (g:=gN 4) (t:=.sh []) (ds:=l.map D.int) (sf:=dG 3 (e2 oMod (e2 iM (e2 wm (aj 3) (eC (.int 67))) (aj 4)) (eC (.int 1000003)))) (λ_ ρ=>∃x tg s4,ρ=[some (dI ns,.sh []),some (tD l,.sh []),some (.int t,.sh []),some (.int x,tg),s4,none]/\0<=x) ⟨t,_,_,rfl,ht.1⟩ (λj ρ d hd ⟨x,tg,s4,e,hx⟩=>by
  subst e;rw[aco] at hd;obtain⟨y,hy,rfl⟩:=acq.mp hd;have hm:e2 oMod (e2 iM (e2 wm (aj 3) (eC (.int 67))) (aj 4)) (eC (.int 1000003)) [some (dI ns,.sh []),some (tD l,.sh []),some (.int t,.sh []),some (.int x,tg),some (.int y,.sh []),none]=some (.int ((x*67+y) % 1000003),.own):=aK (aK (aK rfl rfl (uN (vq (by lia)))) rfl ly) rfl (x9 (by lia));exact⟨[some (dI ns,.sh []),some (tD l,.sh []),some (.int t,.sh []),some (.int x,tg),some (.int y,.sh []),none],rfl,.nx [some (dI ns,.sh []),some (tD l,.sh []),some (.int t,.sh []),some (.int ((x*67+y) % 1000003),.own),some (.int y,.sh []),none],by rw[j9,hm];rfl,_,rfl,_,_,_,rfl,Int.emod_nonneg _ (by lia)⟩)
 subst e;refine gu (AG (Ux rfl) lp) ?_;have h0:=Int.emod_nonneg x (show(4001:Int)≠0 by lia);have h1:=Int.emod_lt_of_pos x (show(0:Int)<4001 by lia);refine fG (dr rfl (aK rfl rfl (x9 (by lia))) rfl rfl (by lia) (by lia) (by lia)) ?_;generalize jE ns (x % 4001) 100057 12=v;refine gq [some (dI ns,.sh []),some (tD l,.sh []),some (.int t,.sh []),some (.int x,tg),s4,some (.int v,.own)] ?_;have q:=B0 (a:=5) (dr (ρ:=[some (dI ns,.sh []),some (tD l,.sh []),some (.int t,.sh []),some (.int x,tg),s4,some (.int v,.own)]) (fs:=aj 0) (fk:=eC (.int 56)) (fp:=eC (.int 10631)) (fm:=eC (.int 6)) rfl rfl rfl rfl (by lia) (by lia) (by lia));have q1:=bx (aK (f:=aj 5) rfl q uI);have q2:tV (e2 oEq (aj 5) (eC (.int 11))) [some (dI ns,.sh []),some (tD l,.sh []),some (.int t,.sh []),some (.int x,tg),s4,some (.int v,.own)]=some (v==11):=rfl;have fin:∀w:Str,w∈(["yes","no","unsure"]:List Str)->∃d,Out.rt (D.str w)=.rt d/\∃w:Str,d=.str w/\w∈(["yes","no","unsure"]:List Str):=λw m=>⟨_,rfl,w,rfl,m⟩
 cases b1:decide (v<5+jE ns 56 10631 6) with
 |true=>rw[b1] at q1;exact⟨_,eY (fL q1 rfl),fin "yes" (by decide +kernel)⟩
 |false=>
  rw[b1] at q1;cases b2:v==11 with
  |true=>rw[b2] at q2;exact⟨_,dg q1 (eY (fL q2 rfl)),fin "unsure" (by decide +kernel)⟩
  |false=>rw[b2] at q2;exact⟨_,dg q1 (dg q2 rfl),fin "no" (by decide +kernel)⟩
theorem PJ(h:l≠[]):qk (tD l)=some (kL l):=by
 unfold qk tD;dsimp only;rw[vS];dsimp only;rw[if_pos ⟨by unfold kL;rw[ahb];exact ada.mpr λ_ _=>rfl,λz=>h (List.map_eq_nil_iff.mp z)⟩]
theorem acp{L:List (List Int)}{v:Int}(h:0<=v/\v<L.length):∃l∈L,dZ (.lst (bS L)) (.int v)=some (tD l):=by
 have cU:v.toNat<L.length:=by lia
 refine⟨L[v.toNat],List.getElem_mem cU,vD ?_ (eO _)⟩;unfold dU lI bS;rw[List.length_map,if_pos (by lia),if_pos (by lia),acV,aco,abp cU];rfl
theorem Ut(h:0<=i/\i<l.length):∃x∈l,dZ (iL l) (.int i)=some (.int x):=by
 have cU:i.toNat<l.length:=by omega
 refine⟨l[i.toNat],List.getElem_mem cU,vD ?_ rfl⟩;unfold dU lI;rw[List.length_map,if_pos (by omega),if_pos (by omega),acV,aco,abp cU];rfl
theorem n8:d7 (iL l)=some (.int l.length):=by unfold iL;rw[zM,List.length_map]
theorem BH{L:List (List Int)}:d7 (.lst (bS L))=some (.int L.length):=by show some (D.int (bS L).length)=_;unfold bS;rw[List.length_map]
def nh(R:Ta):List (List Key×D):=R.map λp=>(kL p.1,hs p.2)
def v7(R:Ta):D:=.cZ (nh R)
theorem ad8(hm:word n t h="more"):(dH "yes" h:Int)<n/\(dH "no" h:Int)<n/\(h.length:Int)<t:=by
 unfold word at hm
 split at hm
 .exists 82
 .split at hm
  .exists 82
  .split at hm
   .exists 82
   .omega
theorem adZ(hm:word n t h="more"):UI [hs (h++[u]),b8 w8 h8 n t]=some (.str (word n t (h++[u]))):=by
 obtain⟨l1,l2,l3⟩:=ad8 hm;have a1:=Mj (h:=h) (w:="yes") (v:=u);have a2:=Mj (h:=h) (w:="no") (v:=u);have b1:dH "yes" (h++[u])<=dH "yes" h+1:=by rw[a1];split<;>lia
 have b2:dH "no" (h++[u])<=dH "no" h+1:=by rw[a2];split<;>lia
 have b3:(h++[u]).length=h.length+1:=by rw[abN];rfl
 generalize h++[u]=x at b1 b2 b3 a1 a2;have c1:∀(v) (s) (tg),aj 2 [some (hs x,.sh []),some (b8 w8 h8 n t,.sh []),s]=some (.str v,tg)->tV (e2 oEq (e2 vZ (aj 0) (aj 2)) (e2 dZ (aj 1) (eC (.int 2)))) [some (hs x,.sh []),some (b8 w8 h8 n t,.sh []),s]=some ((dH v x:Int)==n):=λv s tg e=>bx (aK (aK rfl e Li) rfl rfl)
 have c2:∀s,tV (e2 oEq (e1 d7 (aj 0)) (e2 dZ (aj 1) (eC (.int 3)))) [some (hs x,.sh []),some (b8 w8 h8 n t,.sh []),s]=some ((x.length:Int)==t):=λs=>bx (aK (bf rfl Ig) rfl rfl)
 have st:∀(v) (s),gN 2 (.str v) (.sh []) [some (hs x,.sh []),some (b8 w8 h8 n t,.sh []),s]=some [some (hs x,.sh []),some (b8 w8 h8 n t,.sh []),some (.str v,.sh [])]:=λv s=>rfl
 refine cu rfl ?_;unfold word
 by_cases h1:(dH "yes" x:Int) >= n
 .rw[if_pos h1];exact eY (Bl (gW rfl) (Cj (st "yes" none) (fL ((c1 "yes" _ (.sh []) rfl).trans (by rw[show((dH "yes" x:Int)==n)=true from by simpa using(show(dH "yes" x:Int)=n by lia)])) rfl)))
 .rw[if_neg h1];have k1:=kR (ds:=[.str "no"]) (f:=eX (tV (e2 oEq (e2 vZ (aj 0) (aj 2)) (e2 dZ (aj 1) (eC (.int 2))))) (pW 2) gK) (st "yes" none) (fV ((c1 "yes" _ (.sh []) rfl).trans (by rw[show((dH "yes" x:Int)==n)=false from by simpa using(show(dH "yes" x:Int)≠n by lia)])) rfl)
  by_cases h2:(dH "no" x:Int) >= n
  .rw[if_pos h2];exact eY (Bl (gW rfl) (k1.trans (Cj (st "no" _) (fL ((c1 "no" _ (.sh []) rfl).trans (by rw[show((dH "no" x:Int)==n)=true from by simpa using(show(dH "no" x:Int)=n by lia)])) rfl))))
  .rw[if_neg h2];have k2:=k1.trans (kR (st "no" _) (fV ((c1 "no" _ (.sh []) rfl).trans (by rw[show((dH "no" x:Int)==n)=false from by simpa using(show(dH "no" x:Int)≠n by lia)])) rfl));refine sq (vK (gW rfl) k2) ?_
   by_cases h3:(x.length:Int) >= t
   .rw[if_pos h3];exact eY (fL ((c2 _).trans (by rw[show((x.length:Int)==t)=true from by simpa using(show(x.length:Int)=t by lia)])) rfl)
   .rw[if_neg h3];exact dg ((c2 _).trans (by rw[show((x.length:Int)==t)=false from by simpa using(show(x.length:Int)≠t by lia)])) rfl
theorem FU{L:List Int}:(aV g L w).ta=gp g.ta L (hd g.ta L++[w]):=by unfold aV;split<;>rfl
theorem aeP(h:a.length+b.length<=1000):fW (hs a) (hs b)=some (hs (a++b)):=by
 show(if(aN (a.map D.str)&&aN (b.map D.str)&&decide ((a.map D.str).length+(b.map D.str).length<=sizeLine))=true then some (D.lst (a.map D.str++b.map D.str)) else none)=_;rw[if_pos (by rw[CA,CA,List.length_map,List.length_map,aa1 (by rw[aeV];lia)];rfl)];unfold hs;rw[ade]
theorem YC(h1:fv ρ=some (d,t))(h2:ρ[i]? = some (some (.cZ es,.own)))(h3:fk ρ=some (tD l,t'))(nl:l≠[])(hi:(jT t||aC d)=true)(nd:(es.map (·.1)).Nodup)(hl:es.length<sizeLine):BQ i fk fv ρ=some (.nx (bT ρ i (.cZ (putD es (kL l) d)))):=by
 unfold BQ;rw[h1,h2,h3];dsimp only;rw[PJ nl];dsimp only;rw[if_pos ⟨hi,nd,hl⟩]
theorem Sn(n t:Int)(h:List Str):word n t h="yes"\/word n t h="no"\/word n t h="unsure"\/word n t h="more":=by
 unfold word
 repeat' split
 all_goals simp
theorem zm(h0:ρ[i]? = some (some (gD g,.own)))(ha:ga ρ=some ps)(h:F (gD g) (ps.map (·.1))=some (r,gD g'))(hp:apart i ps=true:=by rfl)(hm:(gF g).lookup m=none:=by rfl):xO i "Gate" m F ga ρ=some (r,bT ρ i (gD g')):=by
 unfold xO;rw[h0,ha];show(if("Gate":Str)="Gate"/\(gF g).lookup m=none/\apart i ps=true then(F (gD g) (ps.map (·.1))).map _ else none)=_;rw[if_pos ⟨rfl,hm,hp⟩,h];rfl
theorem ne_self:jw (.str s) (.str s)=some (.bl false):=by
 show some (D.bl (!(s==s)))=_;rw[afl];rfl
theorem S4(n t:Int)(h:List Str):∃s,zg (.str (word n t h))=some (.str s):=by
 rcases Sn n t h with e|e|e|e<;>rw[e]<;>exact⟨_,if_pos (by decide +kernel)⟩
theorem EK{L:List Int}:(aV g L w).en=if(word g.n g.t (hd g.ta L++[w]) == "more")=true then g.en else g.en++[.tup [tD L,.str (word g.n g.t (hd g.ta L++[w]))]]:=by unfold aV;split<;>rfl
def rA(ns:List Int)(q:Int)(g:G)(T:Ta)(E:List D)(s:D)(l:List (List Int))(s7 s8 s9 iD:Slot):aO:=[some (dI ns,.sh []),some (.int q,.sh []),some (gD g,.own),some (v7 T,.own),some (.lst E,.own),some (s,.sh []),some (.lst (bS l),.own),s7,s8,s9,iD]
theorem sJ(l:List Int):aC (tD l)=true:=by
 unfold tD;simp only[aC,eO]
theorem Y3(hq:0<=q/\q<=100000)(i:Gi k g)(hk:k<=4000)(hl:g.lk≠[]):∃a e,Vm [dI ns,.int q,gD g,v7 g.ta,.lst g.en,b8 w8 h8 g.n g.t]=some (a,e)/\∃L w ld gr,L∈g.lk/\a=.tup [tD L,.str (word g.n g.t (hd g.ta L++[w]))]/\e=[gD (dD { aV g L w with ld:=ld,gr:=gr }),v7 (aV g L w).ta,.lst (aV g L w).en]/\Gi (k+1) (dD { aV g L w with ld:=ld,gr:=gr }):=by
 have ll:=List.length_pos_iff.mpr hl;have b:=ou (ns:=ns) (k:=q) (p:=100103) (m:=(g.lk.length:Int)) (by lia);obtain⟨l,ml,hx⟩:=acp b;obtain⟨p,p1,p2,p3,el,hm⟩:=i.mem ml;have nl:l≠[]:=λe=>by
  have:=qN p3;rw[<- el,e] at this;simp at this
  lia
 have cU:=Pa hm;have nt:=i.gd.nt;refine DI rfl (vN (f_ rfl Ip) (gq (rA ns q g g.ta g.en (b8 w8 h8 g.n g.t) g.lk none none none none) ?_));refine vN (aK rfl (dr rfl rfl rfl (bf rfl BH) hq (by lia) (by lia)) hx) (gq (rA ns q g g.ta g.en (b8 w8 h8 g.n g.t) g.lk (some (tD l,.own)) none none none) ?_);refine vN (t:=.sh [3]) ?_ (gq (rA ns q g g.ta g.en (b8 w8 h8 g.n g.t) g.lk (some (tD l,.own)) (some (hs (hd g.ta l),.sh [3])) none none) ?_)
 .show(qk (tD l)).map (λk=>((bB (nh g.ta) k).getD (.lst []),Tag.sh [3]))=_;rw[PJ nl,Option.map_some,show bB (nh g.ta) (kL l)=_ from zB (φ:=kL) (ψ:=hs) (λ_ _=>qm) _];show some (((gv g.ta l).map hs).getD (.lst []),Tag.sh [3])=some (hs ((gv g.ta l).getD []),Tag.sh [3]);cases gv g.ta l<;>rfl
 obtain⟨_,fw,w,rfl,mw⟩:=Wf (t:=((hd g.ta l).length:Int)) (by lia);refine vN (cR (ps:=[(dI ns,.sh []),(tD l,.sh [7]),(.int (hd g.ta l).length,.own)]) (by rw[aX,aX,aX,bf rfl Ig];rfl) fw) (gq (rA ns q g g.ta g.en (b8 w8 h8 g.n g.t) g.lk (some (tD l,.own)) (some (hs (hd g.ta l),.sh [3])) (some (.str w,.own)) none) ?_);have tl:=i.gt.tl;refine wn (ρ':=rA ns q g (aV g l w).ta g.en (b8 w8 h8 g.n g.t) g.lk (some (tD l,.own)) none (some (.str w,.own)) none) ?_ ?_
 .have nd:((nh g.ta).map (·.1)).Nodup:=by
   unfold nh;rw[ac4,show((λkv:List Key×D=>kv.1) ∘ λp:List Int×List Str=>(kL p.1,hs p.2))=kL ∘ (·.1) from rfl,<- ac4];have tn:=i.gt.tn;unfold List.Nodup at tn ⊢;rw[afn];exact tn.imp λq e=>q (qm e)
  rw[YC (es:=nh g.ta) (d:=hs (hd g.ta l++[w])) (t:=.own) (aK (d2:=hs [w]) rfl rfl (aeP (by show _+1<=_;lia))) rfl rfl nl rfl nd (size_le (by unfold nh;rw[List.length_map];lia)),show putD (nh g.ta) (kL l) (hs (hd g.ta l++[w]))=nh (gp g.ta l (hd g.ta l++[w])) from G5 (φ:=kL) (ψ:=hs) λ_ _=>qm,<- FU];rfl
 have hi:AB (aj 3) (aj 7) (rA ns q g (aV g l w).ta g.en (b8 w8 h8 g.n g.t) g.lk (some (tD l,.own)) none (some (.str w,.own)) none)=some (hs (hd g.ta l++[w]),.sh [3]):=by
  show(iI (l.map D.int)).bind _=_;rw[vS,acV,show bB (nh (aV g l w).ta) (kL l)=_ from zB (φ:=kL) (ψ:=hs) (λ_ _=>qm) _,FU,Ey];rfl
 refine vN (cR (ps:=[(hs (hd g.ta l++[w]),.sh [3]),(b8 w8 h8 g.n g.t,.sh [])]) (by rw[aX,aX,hi];rfl) (adZ hm)) (gq (rA ns q g (aV g l w).ta g.en (b8 w8 h8 g.n g.t) g.lk (some (tD l,.own)) none (some (.str w,.own)) (some (.str (word g.n g.t (hd g.ta l++[w])),.own))) ?_);obtain⟨ld,gr,fa,i'⟩:=adb i hk ml mw;obtain⟨sr,hr⟩:=S4 g.n g.t (hd g.ta l++[w]);refine gu (ρ':=rA ns q (dD { aV g l w with ld:=ld,gr:=gr }) (aV g l w).ta g.en (b8 w8 h8 g.n g.t) g.lk (some (tD l,.own)) none (some (.str w,.own)) (some (.str (word g.n g.t (hd g.ta l++[w])),.own))) ?_ ?_
 .unfold vC D9 Fk;rw[zm (g:=g) (ps:=[(tD l,.sh [7]),(.str w,.sh [9])]) rfl rfl fa];dsimp only;rw[hr];dsimp only;rw[if_pos (show aC (.str sr)=true from rfl)];dsimp only;rw[bf (d:=.str (word g.n g.t (hd g.ta l++[w]))) (t:=.sh [10]) rfl hr];dsimp only;rw[ne_self];rfl
 have el':=i.gt.el;have em:=i.gt.em;refine wn (ρ':=rA ns q (dD { aV g l w with ld:=ld,gr:=gr }) (aV g l w).ta (aV g l w).en (b8 w8 h8 g.n g.t) g.lk (some (tD l,.own)) none (some (.str w,.own)) (some (.str (word g.n g.t (hd g.ta l++[w])),.own))) ?_ ?_
 .rw[EK]
  by_cases hw:(word g.n g.t (hd g.ta l++[w]) == "more")=true
  .rw[if_pos hw];exact fV (bx (aK rfl rfl (show jw _ _=some (.bl false) by show some (D.bl (!(_==_)))=_;rw[hw];rfl))) rfl
  .rw[if_neg hw];refine fL (bx (aK rfl rfl (show jw _ _=some (.bl true) by show some (D.bl (!(_==_)))=_;rw[agR] at hw;rw[hw];rfl))) ?_;show(if(aC (.tup [tD l,.str (word g.n g.t (hd g.ta l++[w]))])&&aN g.en&&decide (g.en.length<sizeLine))=true then some (Out.nx _) else none)=_;rw[if_pos (by rw[em,aa1 (size_le (by lia))];simp only[aC,aN,sJ,afH])];rfl
 refine⟨.rt (.tup [.tup [tD l,.str (word g.n g.t (hd g.ta l++[w]))],gD (dD { aV g l w with ld:=ld,gr:=gr }),v7 (aV g l w).ta,.lst (aV g l w).en]),?_,.inl ⟨_,_,rfl,l,w,ld,gr,ml,rfl,rfl,i'⟩⟩;show(if aC (.tup [tD l,.str (word g.n g.t (hd g.ta l++[w]))])=true then some (Out.rt _) else none)=_;rw[if_pos (by simp only[aC,aN,sJ,afH])];rfl
def rY(ns:List Int)(q:Int)(b:Bool)(L:List (List Int))(O:List Int)(v:Int):aO:=[some (dI ns,.sh []),some (.int q,.sh []),some (.bl b,.sh []),some (.lst (bS L),.sh []),some (iL O,.sh []),some (.int v,.own)]
theorem af5{L:List (List Int)}(hq:0<=q/\q<=100000):∃d,Yk [dI ns,.int q,.bl b,.lst (bS L),iL O]=some d/\∃s:Str,d=.str s/\(s="answer"->L≠[])/\(s="withdraw"->O≠[])/\(s="go"\/s="ask"\/s="answer"\/s="withdraw"\/s="stop"):=by
 refine qJ rfl (fG (dr rfl rfl rfl rfl hq (by lia) (by lia)) ?_);generalize jE ns q 100069 10=v;refine gq (rY ns q b L O v) ?_;have fin:∀s:Str,(s="answer"->L≠[])->(s="withdraw"->O≠[])->(s="go"\/s="ask"\/s="answer"\/s="withdraw"\/s="stop")->∃d,Out.rt (D.str s)=.rt d/\∃s:Str,d=.str s/\(s="answer"->L≠[])/\(s="withdraw"->O≠[])/\(s="go"\/s="ask"\/s="answer"\/s="withdraw"\/s="stop"):=λs h1 h2 h3=>⟨_,rfl,s,rfl,h1,h2,h3⟩
 have t1:jy (tV (aj 2)) (tV (e2 pO (aj 5) (eC (.int 2)))) (rY ns q b L O v)=some (b&&decide (2<v)):=vF rfl (bx (aK rfl rfl z9));cases c1:b&&decide (2<v) with
 |true=>rw[c1] at t1;exact⟨_,eY (fL t1 rfl),fin "go" (λh=>absurd h (by decide +kernel)) (λh=>absurd h (by decide +kernel)) (.inl rfl)⟩
 |false=>
  rw[c1] at t1;have t2:jX (jy (tV (e2 oLt (aj 5) (eC (.int 4)))) (tV (e2 oLt (aj 1) (eC (.int 40))))) (jX (jy (tV (e2 oLt (aj 5) (eC (.int 8)))) (tV (e2 oEq (e1 d7 (aj 3)) (eC (.int 0))))) (jy (tV (e2 oEq (aj 5) (eC (.int 8)))) (tV (e2 oEq (e1 d7 (aj 4)) (eC (.int 0)))))) (rY ns q b L O v)=some (decide (v<4)&&decide (q<40)||(decide (v<8)&&((L.length:Int)==0)||(v==8)&&((O.length:Int)==0))):=
   yk (vF (bx (aK rfl rfl uI)) (bx (aK rfl rfl uI))) (yk (vF (bx (aK rfl rfl uI)) (bx (aK (bf rfl BH) rfl rfl))) (vF rfl (bx (aK (bf rfl n8) rfl rfl))))
  cases c2:(decide (v<4)&&decide (q<40)||(decide (v<8)&&((L.length:Int)==0)||(v==8)&&((O.length:Int)==0))) with
  |true=>rw[c2] at t2;exact⟨_,dg t1 (eY (fL t2 rfl)),fin "ask" (λh=>absurd h (by decide +kernel)) (λh=>absurd h (by decide +kernel)) (.inr (.inl rfl))⟩
  |false=>
   rw[c2] at t2;obtain⟨_,c2⟩:=(Bool.or_eq_false_iff).mp c2;obtain⟨c3,c4⟩:=(Bool.or_eq_false_iff).mp c2;have t3:tV (e2 oLt (aj 5) (eC (.int 8))) (rY ns q b L O v)=some (decide (v<8)):=bx (aK rfl rfl uI);cases c5:decide (v<8) with
   |true=>
    rw[c5] at t3 c3;exact⟨_,dg t1 (dg t2 (eY (fL t3 rfl))),fin "answer" (λ_ e=>by rw[e] at c3;cases c3) (λh=>absurd h (by decide +kernel)) (.inr (.inr (.inl rfl)))⟩
   |false=>
    rw[c5] at t3;have t4:tV (e2 oEq (aj 5) (eC (.int 8))) (rY ns q b L O v)=some (v==8):=rfl;cases c6:v==8 with
    |true=>
     rw[c6] at t4 c4;exact⟨_,dg t1 (dg t2 (dg t3 (eY (fL t4 rfl)))),fin "withdraw" (λh=>absurd h (by decide +kernel)) (λ_ e=>by rw[e] at c4;cases c4) (.inr (.inr (.inr (.inl rfl))))⟩
    |false=>
     rw[c6] at t4;exact⟨_,dg t1 (dg t2 (dg t3 (dg t4 rfl))),fin "stop" (λh=>absurd h (by decide +kernel)) (λh=>absurd h (by decide +kernel)) (.inr (.inr (.inr (.inr rfl))))⟩
structure Dn(s:Str)(g g':G):Prop where
 w:g'.w=g.w
 h:g'.h=g.h
 n:g'.n=g.n
 t:g'.t=g.t
 ta:g'.ta=g.ta
 gw:g'.gw=g.gw
 en:g'.en=g.en
 ln:g'.ln=g.ln
 ht:g'.ht=if s="stop" then true else if s="go" then false else g.ht
def Dz(k m:Nat)(g:G)(s:Str)(a:D)(e:List D):Prop:=∃(g':G) (d8:iu),a=.bl true/\e=[gD g',bK d8]/\Gi k g'/\Sv d8/\Dn s g g'/\g'.C.length=(if s="ask" then m+1 else m)
def rN(ns:List Int)(q:Int)(s:Str)(g:G)(es:iu)(m:Nat)(s6 s7:Slot):aO:=[some (dI ns,.sh []),some (.int q,.sh []),some (.str s,.sh []),some (gD g,.own),some (bK es,.own),some (.int m,.sh []),s6,s7]
theorem acJ(h:fx ρ=some (d1,ρ'))(h2:fb ρ'=some (d2,t))(h3:oEq d1 d2=some d):Cw fx fb ρ=some (d,ρ'):=by
 unfold Cw;rw[h];dsimp only;rw[h2];dsimp only;rw[h3];rfl
theorem GJ(h:fx ρ=some (d1,ρ'))(h2:fb ρ'=some (d2,t))(h3:o d1 d2=some d):Az o fx fb ρ=some (d,ρ'):=by
 unfold Az;rw[h];dsimp only;rw[h2];dsimp only;rw[h3];rfl
theorem Xd{s:Str}(hq:0<=q/\q<=100)(i:Gi k g)(sv:Sv es)(hm:g.C.length=m)(jU:m<60)(ho:s="withdraw"->wl g++g.ld≠[])(hs:s="go"\/s="ask"\/s="withdraw"\/s="stop"):∃a e,ab4 [dI ns,.int q,.str s,gD g,bK es,.int m]=some (a,e)/\Dz k m g s a e:=by
 have gl:=i.gd.gc.ln;have ll:=i.gd.len;have wl':=Cy (g:=g);refine DI rfl (gq (rN ns q s g es m none none) ?_);have t (v:Str):tV (e2 oEq (aj 2) (eC (.str v))) (rN ns q s g es m none none)=some (s==v):=rfl;have fin:∀{f} {ρ ρ'} {g'} {d8},f ρ=some (.bl true,ρ')->j6 [3,4] ρ'=some [gD g',bK d8]->Gi k g'->Sv d8->Dn s g g'->g'.C.length=(if s="ask" then m+1 else m)->∃d,vA f [3,4] ρ=some (.rt d)/\∃a e,Out.rt d=.rt (.tup (a::e))/\Dz k m g s a e:=λh1 h2 a b c d=>⟨_,by unfold vA;rw[h1];dsimp only;rw[h2];rfl,_,_,rfl,_,_,rfl,rfl,a,b,c,d⟩
 rcases hs with rfl|rfl|rfl|rfl
 .obtain⟨ld,gr,fa,i'⟩:=Vs i;obtain⟨d,h1,h2⟩:=fin (GJ (zm (m:="go") (ρ:=rN ns q "go" g es m none none) (i:=3) (ga:=aJ) (ps:=[]) rfl rfl fa) (t:=.own) (d2:=.aA) (o:=gR) (fb:=eC .aA) rfl rfl) rfl i' sv ⟨rfl,rfl,rfl,rfl,rfl,rfl,rfl,rfl,rfl⟩ hm;exact gu (fV ((t "ask").trans (by decide +kernel)) rfl) (gu (fV ((t "withdraw").trans (by decide +kernel)) rfl) (gu (fV ((t "stop").trans (by decide +kernel)) rfl) ⟨_,h1,.inl h2⟩))
 .obtain⟨a,e,Vw,ch,rfl,rfl,gc,eg⟩:=V9 (k:=q) (m:=m) (by lia) sv (by lia);obtain⟨ld,gr,fa,i'⟩:=WV i (by rw[hm];exact gc) (by lia);have st:yo 6 (A1 [4] [none,none,some 4,none] MP (ay (aj 0) (ay (aj 1) (Ft 4 (ay (aj 5) aJ))))) (rN ns q "ask" g es m none none)=some (.nx (rN ns q "ask" g (eS es ch.2.2) m (some (rO ch,.own)) none)):=FH (Mp (ps:=[(dI ns,.sh []),(.int q,.sh []),(bK es,.sh [4]),(.int m,.sh [])]) rfl Vw);obtain⟨d,h1,h2⟩:=fin (acJ (zm (m:="ask") (ρ:=rN ns q "ask" g (eS es ch.2.2) m (some (rO ch,.own)) none) (i:=3) (ga:=ay (zj (aj 6) (eC (.int 0))) (ay (zj (aj 6) (eC (.int 1))) (ay (zj (aj 6) (eC (.int 2))) aJ))) (ps:=[(.int ch.1,.sh [6]),(iL ch.2.1,.sh [6]),(eL ch.2.2,.sh [6])]) rfl rfl fa) (fb:=e2 iM (aj 5) (eC (.int 1))) rfl (by show some (D.bl (_==_))=_;rw[hm,afl])) rfl i' (sv.eS eg) ⟨rfl,rfl,rfl,rfl,rfl,rfl,rfl,rfl,rfl⟩ (by show(g.C++[ch]).length=_;rw[if_pos rfl,abN,hm];rfl);exact⟨_,eY (fL ((t "ask").trans (by decide +kernel)) (sq (iK st) h1)),.inl h2⟩
 .have h:(0:Int)<(wl g++g.ld).length:=by
   have:=List.length_pos_iff.mpr (ho rfl)
   lia
  have e0:dG 7 (e2 fW (cD "Gate" "waiting" xC (aj 3) aJ) (cD "Gate" "laid" Mn (aj 3) aJ)) (rN ns q "withdraw" g es m none none)=some (.nx (rN ns q "withdraw" g es m none (some (iL (wl g++g.ld),.own)))):=by
   rw[j9,aK (f_ rfl (t_ (by lia))) (f_ rfl JO) (pP (by rw[aeV];lia))];rfl
  obtain⟨x,mx,hx⟩:=Ut (ou h);obtain⟨ld,gr,fa,i'⟩:=aaH i (abE.mp mx);obtain⟨d,h1,h2⟩:=fin (GJ (zm (m:="withdraw") (ρ:=rN ns q "withdraw" g es m none (some (iL (wl g++g.ld),.own))) (i:=3) (ga:=ay (e2 dZ (aj 7) (cO rH (ay (aj 0) (ay (aj 1) (ay (eC (.int 100109)) (ay (e1 d7 (aj 7)) aJ)))))) aJ) (ps:=[(.int x,.own)]) rfl (by rw[aX,aK rfl (dr rfl rfl rfl (bf rfl n8) (by lia) (by lia) h) hx];rfl) fa) (t:=.own) (d2:=.aA) (o:=gR) (fb:=eC .aA) rfl rfl) rfl i' sv ⟨rfl,rfl,rfl,rfl,rfl,rfl,rfl,rfl,rfl⟩ hm;exact gu (fV ((t "ask").trans (by decide +kernel)) rfl) ⟨_,eY (fL ((t "withdraw").trans (by decide +kernel)) (sq (iK e0) h1)),.inl h2⟩
 .obtain⟨ld,gr,fa,i'⟩:=aaf i;obtain⟨d,h1,h2⟩:=fin (GJ (zm (m:="stop") (ρ:=rN ns q "stop" g es m none none) (i:=3) (ga:=aJ) (ps:=[]) rfl rfl fa) (t:=.own) (d2:=.aA) (o:=gR) (fb:=eC .aA) rfl rfl) rfl i' sv ⟨rfl,rfl,rfl,rfl,rfl,rfl,rfl,rfl,rfl⟩ hm;exact gu (fV ((t "ask").trans (by decide +kernel)) rfl) (gu (fV ((t "withdraw").trans (by decide +kernel)) rfl) ⟨_,eY (fL ((t "stop").trans (by decide +kernel)) h1),.inl h2⟩)
theorem SK(hl:ds.length=n)(h:b (uJ N ds)=some (.er raw cn ρ)):qW n N b ds=some (.er cn):=by
 unfold qW;rw[if_pos hl,h]
theorem L5{L:List Int}(h:L∉g.lk):acN [gD g,tD L]=some (.bl true):=by
 have hr:BS [gD g,tD L,.str "yes"]=some (.er ("NoLook",none)):=SK rfl (aeA (fL (bx (aK (d1:=tD L) (t1:=.sh []) rfl (fl (g:=g) (t:=.sh []) rfl) ((AR true L g.lk).trans (by rw[if_pos rfl,abR h];rfl)))) rfl));have hm:BB (BY "Gate" "answer" BS (aj 0) (ay (aj 1) (ay (eC (.str "yes")) aJ))) [some (gD g,.sh []),some (tD L,.sh []),some (.bl false,.own),none]=some (.er false ("NoLook",none) [some (gD g,.sh []),some (tD L,.sh []),some (.bl false,.own),none]):=by
  have:BY "Gate" "answer" BS (aj 0) (ay (aj 1) (ay (eC (.str "yes")) aJ)) [some (gD g,.sh []),some (tD L,.sh []),some (.bl false,.own),none]=some (.er ("NoLook",none) [some (gD g,.sh []),some (tD L,.sh []),some (.bl false,.own),none]):=by
   show(if("Gate":Str)="Gate"/\(gF g).lookup ("answer":Str)=none then(match BS [gD g,tD L,.str "yes"] with|some (.ok d)=>some _|some (.er en)=>some _|none=>none) else none)=_;rw[if_pos ⟨rfl,rfl⟩,hr]
  unfold BB;rw[this]
 refine cu rfl (sq (ρ':=[some (gD g,.sh []),some (tD L,.sh []),some (.bl false,.own),none]) rfl (sq (ρ':=[some (gD g,.sh []),some (tD L,.sh []),some (.bl true,.own),none]) ?_ rfl));unfold Jb;rw[hm];rfl
structure Sh(w k:Nat)(d:D):Prop where
 ok:fN d=true
 sh:(py d).showable=true
 dp:(py d).depth<=k
 lv:(py d).leavesShort 13=true
 wt:(py d).weight<=w
theorem Sh.all(h:∀d∈ds,Sh w k d):lX ds=true/\PyData.showableAll (dO ds)=true/\PyData.depthAll (dO ds)<=k/\PyData.leavesShortAll 13 (dO ds)=true/\PyData.weightAll (dO ds)<=(w+1)*ds.length:=by
 induction ds with
 |nil=>exact⟨rfl,rfl,aes _,rfl,aes _⟩
 |cons d ds ih=>
  have a:=h d aar;obtain⟨i1,i2,i3,i4,i5⟩:=ih λe m=>h e (aaa _ m)
  unfold lX dO;simp only[PyData.showableAll,PyData.depthAll,PyData.leavesShortAll,PyData.weightAll,a.ok,a.sh,a.lv,i1,i2,i4,afH,acf,true_and];have h1:=a.dp;have h2:=a.wt;rw[Nat.mul_succ];omega
theorem Sh.lst(h:∀d∈ds,Sh w k d)(hl:ds.length<=n):Sh ((w+1)*n) (k+1) (.lst ds):=by
 obtain⟨i1,i2,i3,i4,i5⟩:=Sh.all h;have:=Nat.mul_le_mul_left (w+1) hl;refine⟨by unfold fN;exact i1,?_,?_,?_,?_⟩<;>unfold py
 .simp only[PyData.showable];exact i2
 .simp only[PyData.depth];omega
 .simp only[PyData.leavesShort];exact i4
 .simp only[PyData.weight];omega
theorem Sh.tup(h:∀d∈ds,Sh w k d)(hl:ds.length<=n):Sh ((w+1)*n) (k+1) (.tup ds):=by
 obtain⟨i1,i2,i3,i4,i5⟩:=Sh.lst h hl;unfold fN py at *;simp only[PyData.showable,PyData.depth,PyData.leavesShort,PyData.weight] at *;exact⟨by unfold fN;exact i1,by unfold py;exact i2,by unfold py;exact i3,by unfold py;exact i4,by unfold py;exact i5⟩
theorem Sh.repr(h:Sh w k d)(hw:w<=1048576)(hk:k<=40)(hd:dep d≠0:=by unfold dep;omega):∃s,pV d=some (.str s):=by
 refine⟨_,YF ?_ hd⟩;unfold vM;rw[h.ok,h.sh,aa1 (adE h.dp hk),aa1 (PyData.shown_fits (B:=13) (by decide) (by decide) h.lv (adE h.wt hw))];rfl
theorem Sh.int{i:Int}(h:0<=i/\i<=100):Sh 50 0 (.int i):=by
 have s:∀j∈[i],xT j:=λj m=>by rw[aa3.mp m];unfold xT;omega
 have a:=Ra [i] s;have b:=RN [i] s;have c:=PK [i] s;simp only[aas,ag9,PyData.showableAll,PyData.weightAll,PyData.leavesShortAll,Bool.and_true,aeh] at a b c;exact⟨rfl,a,abT _,c,by show(PyData.int i).weight<=50;omega⟩
theorem Sh.wd{s:Str}(h:s="yes"\/s="no"\/s="unsure"\/s="more"):Sh 10 0 (.str s):=by
 rcases h with rfl|rfl|rfl|rfl<;>exact⟨rfl,rfl,abT _,by decide +kernel,by decide +kernel⟩
def Lo(l:List Int):Prop:=l.length<=60/\∀x∈l,0<=x/\x<=100
theorem Lo.is{l:List Int}(h:Lo l):∀d∈l.map D.int,Sh 50 0 d:=λd m=>by
 exists 78;exact .int (h.2 x mx)
theorem Lo.tD{l:List Int}(h:Lo l):Sh 3060 1 (tD l):=Sh.tup h.is (by rw[List.length_map];exact h.1)
theorem Gd.lo{g:G}(k:Gd g){l:List Int}(h:l <+: g.ln++g.ld):Lo l:=by
 have a:=k.len;have b:=h.length_le;rw[abN] at b;refine⟨by omega,λx m=>?_⟩;have:=k.row x (h.subset m);have:=k.gc.ln;omega
theorem Rg{g:G}{p:Nat}:cQ g p <+: g.ln++g.ld:=by
 unfold cQ;exact(List.prefix_append_right_inj _).mpr (List.take_prefix _ _)
noncomputable abbrev Rc:=List (List Int×Str)
def eN(q:List Int×Str):D:=.tup [tD q.1,.str q.2]
structure Ce(g:G)(R:Rc):Prop where
 en:g.en=R.map eN
 gw:g.gw=(R.filter λq:List Int×Str=>q.2==("yes":Str)).map (·.1)
 nm:∀q∈R,word g.n g.t (hd g.ta q.1)≠"more"
 lo:∀q∈R,Lo q.1
 wd:∀q∈R,q.2="yes"\/q.2="no"\/q.2="unsure"\/q.2="more"
theorem Ce.sh{g:G}{R:Rc}(c:Ce g R)(hl:R.length<=50):Sh 306150 3 (.lst g.en):=by
 rw[c.en];refine Sh.lst (w:=6122) (n:=50) (λd m=>?_) (by rw[List.length_map];exact hl);obtain⟨q,mq,rfl⟩:=abX.mp m;refine Sh.tup (w:=3060) (n:=2) (λd m=>?_) (abT _);rcases abb.mp m with rfl|m
 .exact(c.lo q mq).tD
 .rw[aa3.mp m];obtain⟨a1,a2,a3,a4,a5⟩:=Sh.wd (c.wd q mq);exact⟨a1,a2,adE a3 (aes _),a4,adE a5 (by decide)⟩
theorem Ce.gs{g:G}{R:Rc}(c:Ce g R)(hl:R.length<=50):Sh 153050 2 (.lst (bS g.gw)):=by
 rw[c.gw];refine Sh.lst (w:=3060) (n:=50) (λd m=>?_) (by unfold bS;rw[List.length_map,List.length_map];exact adE (ae5 _ _) hl);obtain⟨l,ml,rfl⟩:=abX.mp m;obtain⟨q,mq,rfl⟩:=abX.mp ml;exact(c.lo q (acL.mp mq).1).tD
theorem Ce.ln{g:G}{R:Rc}(c:Ce g R):g.en.length=R.length:=by rw[c.en,List.length_map]
def rQ(g:G)(E:List (List Int))(t:Tag)(n:Nat)(s8:Slot):aO:=[some (gD g,.sh []),some (iL g.ln,.sh []),some (.lst g.en,.sh []),some (b8 g.w g.h g.n g.t,.sh []),some (iL g.ld,.own),some (.lst (bS g.lk),t),some (.int n,.own),some (.lst (bS E),.own),s8]
theorem Qi{l:List Int}:d7 (tD l)=some (.int l.length):=by show some (D.int (l.map D.int).length)=_;rw[List.length_map]
theorem aeJ{g:G}(k:Gd g){E:List (List Int)}{ps:List Nat}:∀{n} {s8},ps.Pairwise (· < ·)->(∀p∈ps,n<g.ln.length+p/\p<=g.ld.length/\cQ g p∉E)->∃n' zG,dh (gN 8) (.sh [5]) (b7 (eX (jX (lW (tV (e1 (Ka "tuple") (aj 8)))) (jX (tV (e2 oLe (e1 d7 (aj 8)) (aj 6))) (tV (e2 (vY false) (aj 8) (aj 7))))) (lC (eC (.bl false))) gK) (b7 (dG 6 (e1 d7 (aj 8))) (eX (jX (tV (e2 jw (e1 pV (aj 8)) (e1 pV (e1 yy (e2 fW (aj 1) (lZ (aj 4) (e2 kg (aj 6) (e1 d7 (aj 1))))))))) (tV (e2 pO (aj 6) (e2 iM (e1 d7 (aj 1)) (e1 d7 (aj 4)))))) (lC (eC (.bl false))) gK))) (bS (ps.map (cQ g))) (rQ g E .lk n s8)=some (.nx (rQ g E .lk n' zG)):=by
 induction ps with
 |nil=>exact λ_ _=>⟨_,_,rfl⟩
 |cons p ps ih=>
  intro n s8 hp h;obtain⟨h1,h2,h3⟩:=h p aar;obtain⟨D4,tM⟩:=adK.mp hp;have hL:=qN h2;obtain⟨n',zG,e⟩:=ih (n:=g.ln.length+p) (s8:=some (tD (cQ g p),.sh [5])) tM λr m=>⟨by have:=D4 r m;omega,(h r (aaa _ m)).2⟩
  refine⟨n',zG,(kR (aS:=rQ g E .lk n (some (tD (cQ g p),.sh [5]))) rfl (sq (fV ((pX (kN (b:=true) rfl)).trans ((pX (bx (aK (bf rfl Qi) rfl (by rw[Pj,hL,abR (by omega)])))).trans (bx (aK (d1:=tD (cQ g p)) (d2:=.lst (bS E)) rfl rfl ((AR false _ _).trans (by rw[if_neg (by decide),abR h3])))))) rfl) (sq (ρ':=rQ g E .lk (g.ln.length+p) (some (tD (cQ g p),.sh [5]))) (by rw[j9,bf (d:=tD (cQ g p)) rfl Qi,hL];rfl) (fV ?_ rfl)))).trans e⟩;obtain⟨sr,hr⟩:=(k.lo (Rg (g:=g) (p:=p))).tD.repr (by decide) (by decide) (by unfold tD dep;omega);have hc:lZ (aj 4) (e2 kg (aj 6) (e1 d7 (aj 1))) (rQ g E .lk (g.ln.length+p) (some (tD (cQ g p),.sh [5])))=some (iL (g.ld.take p),.own):=by
   unfold lZ;rw[show aj 4 (rQ g E .lk (g.ln.length+p) (some (tD (cQ g p),.sh [5])))=some (iL g.ld,.sh [4]) from rfl,aK (d:=.int p) rfl (bf rfl n8) (show some (D.int (((g.ln.length+p:Nat):Int)-g.ln.length))=_ by rw[show(((g.ln.length+p:Nat):Int)-g.ln.length)=p by omega])];exists 61;rw[if_pos (eO _),BU (by rw[List.length_map];exact h2),<- List.map_take];rfl
  have hl:=k.len;have h4:=agQ (i:=p) (l:=g.ld);exact(pX (bx (aK (bf (d:=tD (cQ g p)) rfl hr) (bf (bf (aK rfl hc (pP (by rw[aeV];omega))) ug) hr) ne_self))).trans (bx (aK rfl (aK (bf rfl n8) (bf rfl n8) ly) (by rw[z9,abR (by omega)])))
theorem Yj{k:Nat}{g:G}{R:Rc}(i:Gi k g)(c:Ce g R)(hl:R.length<=50):Q0 [gD g,iL g.ln,.lst g.en,b8 g.w g.h g.n g.t]=some (.bl true):=by
 have e:∃d,Q0 [gD g,iL g.ln,.lst g.en,b8 g.w g.h g.n g.t]=some d/\d=.bl true:=by
  have ll:=i.gt.ll;have h1:=i.gd.h1;have gl:=i.gd.gc.ln;refine qJ rfl (fG (f_ rfl JO) (fG (f_ rfl Ip) ?_));refine gu (fV ((pX (kN (b:=true) (bx (bf (d:=.lst (bS g.lk)) rfl rfl)))).trans (bx (aK (bf rfl BH) (aK (d1:=.int g.h) rfl rfl rfl) (by rw[z9,abR (by split<;>omega)])))) rfl) ?_;refine fG (bf rfl n8) (fG (jQ (ds:=g.en) (k:=λd=>match d with|.tup [a,_]=>some a|_=>none) (gW rfl) (by have:=i.gt.el;have:=c.ln;exact size_le (by omega)) λd m=>?_) ?_)
  .rw[c.en] at m;obtain⟨q,mq,rfl⟩:=abX.mp m;exact rG rfl rfl (e:=tD q.1) (tg:=.own) (aK (d1:=eN q) rfl rfl (by show(if aC (tD q.1)=true then some (tD q.1) else none)=_;rw[if_pos (sJ _)])) (sJ _)
  have eE:g.en.filterMap (λd=>match d with|.tup [a,_]=>some a|_=>none)=bS (R.map (·.1)):=by
   rw[c.en,aeN];unfold bS;rw[ac4,<- List.filterMap_eq_map];rfl
  rw[eE];refine gq (rQ g (R.map (·.1)) .own g.ln.length none) ?_;obtain⟨ps,K⟩:=i.Jv;have el:=Fz (g:=g);have eq:g.lk=(ps.map Int.toNat).map (cQ g):=by rw[K.eq,ac4];rfl
  obtain⟨n',zG,lp⟩:=aeJ i.gd (E:=R.map (·.1)) (ps:=ps.map Int.toNat) (n:=g.ln.length) (s8:=none) (by
   rw[afn];exact K.ri.so.imp_of_mem λma mb A_=>by have:=K.ri.bd _ ma;have:=K.ri.bd _ mb;omega) λp m=>by
   exists 78;have:=K.ri.bd x mx;refine⟨by omega,by omega,λmq=>?_⟩;obtain⟨q,mq,hq⟩:=abX.mp mq;obtain⟨_,_,_,_,_,hm⟩:=i.mem (l:=cQ g x.toNat) (by rw[K.eq];exact abX.mpr ⟨x,mx,rfl⟩);exact c.nm q mq (by rw[hq];exact hm)
  rw[<- eq] at lp;refine gu (vz (t:=.sh [5]) (gW rfl) lp) (gq (rQ g (R.map (·.1)) .own n' zG) ?_);have pl:g.ht=false->(g.lk.length=0↔g.ld.length=0):=λh=>by
   have lk:g.lk.length=ps.length:=by rw[K.eq,List.length_map]
   have ge:=K.ge;obtain⟨f1,f2,f3⟩:=i.fin.go h;constructor
   .intro hz
    by_cases hd:g.ld.length=0
    .exact hd
    .exfalso
     have:2<=eo g:=by
      unfold eo tR;cases hb:dz g with
      |none=>show(2:Int)<=g.ld.length+1;omega
      |some p=>
       have:=(zc hb).1;have np:p≠1:=λz=>f1 (by rw[hb,z])
       show(2:Int)<=(p:Int);omega
     unfold lim at ge
     split at ge<;>omega
   .intro hz;rw[lk];cases ps with
    |nil=>rfl
    |cons x r=>have:=K.ri.bd x aar;omega
  cases hh:g.ht with
  |true=>
   have hd:=i.gt.st hh;have hk:g.lk=[]:=by
    rw[K.eq];cases ps with
    |nil=>rfl
    |cons x r=>have:=K.ri.bd x aar;have:g.ld.length=0:=(by rw[hd];rfl);omega
   refine⟨_,eY (fL (bx (f_ (g:=g) (t:=.sh []) (d:=.bl true) rfl (by rw[<- hh];exact Dm))) (cK (tO (b:=true) (c:=true) (aK (d1:=iL []) (d2:=iL []) (by unfold rQ;rw[hd];rfl) rfl (Ke (lay_ints []))) (aK (d1:=.lst (bS [])) (d2:=.lst (bS [])) (by unfold rQ;rw[hk];rfl) rfl (Ke (Q7 [])))))),_,rfl,rfl⟩
  |false=>
   refine gu (fV (bx (f_ (g:=g) (t:=.sh []) (d:=.bl false) rfl (by rw[<- hh];exact Dm))) rfl) ⟨_,cK (tO (b:=true) (c:=true) (aK (aK (bf rfl n8) rfl rfl) (aK (bf rfl BH) rfl rfl) ?_) ?_),_,rfl,rfl⟩
   .show some (D.bl ((_==_)==(_==_)))=_;have:=pl hh;have b1:(((g.ld.length:Nat):Int)==0)=(((g.lk.length:Nat):Int)==0):=by
     rw[agX,afJ,afJ];omega
    rw[b1,afl]
   .unfold GN;rw[aK (d:=.bl (decide (0<(g.ld.length:Int)))) (bf rfl n8) rfl z9]
    by_cases hd:0<(g.ld.length:Int)
    .rw[aa1 hd]
    .rw[abR hd];have hz:g.ld=[]:=List.length_eq_zero_iff.mp (by omega);have:=(i.fin.go hh).2.1 hz;exact aK (d2:=iL []) (f_ (g:=g) rfl (t_ (by omega))) rfl (by rw[this];exact Ke (lay_ints []))
 obtain⟨_,e,rfl⟩:=e;exact e
noncomputable def kY:D->Option D
 |.tup [a,.str s]=>if(s==("yes":Str))=true then some a else none
 |_=>none
theorem M5{k:Nat}{g:G}{R:Rc}(i:Gi k g)(c:Ce g R)(hl:R.length<=50):LU [gD g,iL g.ln,.lst g.en,b8 g.w g.h g.n g.t,.bl g.ht]=some (.bl true):=by
 have e:∃d,LU [gD g,iL g.ln,.lst g.en,b8 g.w g.h g.n g.t,.bl g.ht]=some d/\d=.bl true:=by
  obtain⟨s1,r1⟩:=(Sh.lst (n:=60) (i.gd.lo (agW g.ln g.ld)).is (by rw[List.length_map];exact(i.gd.lo (agW g.ln g.ld)).1)).repr (by decide) (by decide);obtain⟨s2,r2⟩:=(c.sh hl).repr (by decide) (by decide);obtain⟨s3,r3⟩:=(c.gs hl).repr (by decide) (by decide);refine qJ rfl (gu (fV ((pX (bx (aK (bf (f_ rfl aeR) r1) (bf rfl r1) ne_self))).trans ((pX (bx (aK (bf (f_ rfl (Sz i.gt.em)) r2) (bf rfl r2) ne_self))).trans (bx (aK (d1:=.str (if g.ht then "True" else "False")) (bf (f_ rfl Dm) rfl) (bf rfl rfl) ne_self)))) rfl) (fG (jQ (ds:=g.en) (k:=kY) (gW rfl) (by have:=i.gt.el;have:=c.ln;exact size_le (by omega)) λd m=>?_) ?_))
  .rw[c.en] at m;obtain⟨q,mq,rfl⟩:=abX.mp m;have t1:tV (e2 oEq (aj 1) (eC (.str "yes"))) [some (tD q.1,.own),some (.str q.2,.own)]=some (q.2 == "yes"):=rfl;have hg:gT (ez (gN 0) (ez (gN 1) lS)) (eN q) (.sh []) [none,none]=some [some (tD q.1,.own),some (.str q.2,.own)]:=by
    show(if aC (tD q.1)=true then _ else none)=_;rw[if_pos (sJ _)];rfl
   show iW _ _ _ _ (eN q)=some (if(q.2 == "yes")=true then some (tD q.1) else none)
   by_cases hy:(q.2 == "yes")=true
   .rw[if_pos hy];rw[hy] at t1;exact rG hg t1 (e:=tD q.1) (tg:=.sh [0]) rfl (sJ _)
   .rw[if_neg hy];rw[agR] at hy;rw[hy] at t1;exact zL hg t1
  have eE:g.en.filterMap kY=bS g.gw:=by
   rw[c.en,c.gw,aeN];unfold bS;clear c hl r1 r2 r3
   induction R with
   |nil=>rfl
   |cons q R ih=>
    rw[agC]
    by_cases hy:(q.2==("yes":Str))=true
    .rw[List.filterMap_cons_some (show(kY ∘ eN) q=some (tD q.1) from if_pos hy),if_pos hy,aas,aas];exact congrArg _ ih
    .rw[List.filterMap_cons_none (show(kY ∘ eN) q=none from if_neg hy),if_neg hy];exact ih
  rw[eE];refine gq [some (gD g,.sh []),some (iL g.ln,.sh []),some (.lst g.en,.sh []),some (b8 g.w g.h g.n g.t,.sh []),some (.bl g.ht,.sh []),some (.lst (bS g.gw),.own)] ?_;refine gu (fV (bx (aK (bf (f_ rfl U4) r3) (bf rfl r3) ne_self)) rfl) ⟨_,cK (cR (ps:=[(gD g,.sh []),(iL g.ln,.sh []),(.lst g.en,.sh []),(b8 g.w g.h g.n g.t,.sh [])]) rfl (Yj i c hl)),_,rfl,rfl⟩
 obtain⟨_,e,rfl⟩:=e;exact e
theorem Gi.up(i:Gi k g):Gi (k+1) g:=⟨i.gd,⟨i.gt.tn,by have:=i.gt.tl;lia,i.gt.yl,i.gt.em,by have:=i.gt.el;lia,by have:=i.gt.gl;lia,i.gt.lg,i.gt.st,i.gt.ll⟩,i.fin,i.Jv⟩
theorem min2{a n:Nat}:wA (.int a) (.int n)=some (.int (min a n:Nat)):=by
 show some (D.int (if(n:Int)<a then(n:Int) else a))=_;rw[show(if(n:Int)<a then(n:Int) else a)=((min a n:Nat):Int) by split<;>lia]
theorem Tw(h:f ρ=some (d,ρ'))(hi:aC d=true):xI f ρ=some (d,ρ'):=by
 unfold xI;rw[h];dsimp only;rw[if_pos hi]
theorem ae8{L ld:List Int}(i:Gi k g)(c:Ce g R)(ml:L∈g.lk):∃R',Ce (dD { aV g L w with ld:=ld,gr:=gr }) R'/\R'.length<=R.length+1:=by
 obtain⟨p,p1,p2,p3,eL,hm⟩:=i.mem ml;have lo:=i.gd.lo (eL ▸ Rg);have nt:(aV g L w).n=g.n/\(aV g L w).t=g.t:=by unfold aV;split<;>exact⟨rfl,rfl⟩
 have hw:∀l,word (aV g L w).n (aV g L w).t (hd (aV g L w).ta l)=if l=L then word g.n g.t (hd g.ta L++[w]) else word g.n g.t (hd g.ta l):=λl=>by
  rw[nt.1,nt.2,FU,Gn]
  split<;>rfl
 have ol:∀q∈R,word (aV g L w).n (aV g L w).t (hd (aV g L w).ta q.1)≠"more":=λq m=>by
  have:=c.nm q m;rw[hw,if_neg λe=>this (by rw[e];exact hm)];exact this
 by_cases hW:word g.n g.t (hd g.ta L++[w])="more"
 .refine⟨R,⟨?_,?_,ol,c.lo,c.wd⟩,ahi _⟩
  .show(aV g L w).en=_;rw[EK,hW];exact(if_pos (by decide +kernel)).trans c.en
  .show(aV g L w).gw=_;unfold aV;rw[hW,if_neg (by decide +kernel)];exact c.gw
 .have hb:¬(word g.n g.t (hd g.ta L++[w]) == "more")=true:=λe=>hW (eq_of_beq e)
  refine⟨R++[(L,word g.n g.t (hd g.ta L++[w]))],⟨?_,?_,λq m=>?_,λq m=>?_,λq m=>?_⟩,by rw[abN];exact abT _⟩
  .show(aV g L w).en=_;rw[ade,<- c.en,EK,if_neg hb];rfl
  .show(aV g L w).gw=_;rw[List.filter_append,ade,<- c.gw,agC,List.filter_nil];unfold aV;cases hy:(word g.n g.t (hd g.ta L++[w]) == "yes") with
   |true=>rfl
   |false=>exact(acE _).symm
  .rcases abE.mp m with m|m
   .exact ol q m
   .rw[aa3.mp m];show word (aV g L w).n (aV g L w).t (hd (aV g L w).ta L)≠_;rw[hw,if_pos rfl];exact hW
  .rcases abE.mp m with m|m
   .exact c.lo q m
   .rw[aa3.mp m];exact lo
  .rcases abE.mp m with m|m
   .exact c.wd q m
   .rw[aa3.mp m];exact Sn _ _ _
theorem Ce.keep(c:Ce g R)(d:Dn s g g'):Ce g' R:=⟨d.en ▸ c.en,d.gw ▸ c.gw,λq m=>by rw[d.n,d.t,d.ta];exact c.nm q m,c.lo,c.wd⟩
def rL(ns:List Int)(st:D)(g:G)(ln:List Int)(ta:Ta)(en:List D)(es:iu)(m:Nat)(b:Bool)(s9 iD gz:Slot):aO:=[some (dI ns,.sh []),some (st,.own),some (gD g,.own),some (iL ln,.own),some (v7 ta,.own),some (.lst en,.own),some (bK es,.own),some (.int m,.own),some (.bl b,.own),s9,iD,gz]
structure Iv(w h n t:Int)(j:Nat)(g:G)(es:iu)(m:Nat)(R:Rc):Prop where
 i:Gi j g
 c:Ce g R
 sv:Sv es
 hm:g.C.length=m
 mj:m<=j
 rl:R.length<=j
 w:g.w=w
 h:g.h=h
 n:g.n=n
 t:g.t=t
theorem abw(i:Gi k g):g.ln∉g.lk/\g.ln++[61]∉g.lk:=by
 constructor<;>intro m<;>obtain⟨p,p1,p2,p3,e,_⟩:=i.mem m
 .have:=qN p3;rw[<- e] at this;omega
 .unfold cQ at e;have e:=List.append_cancel_left e;have:(61:Int)∈g.ld:=List.mem_of_mem_take (i:=p) (e ▸ aa3.mpr rfl);have:=i.gd.row 61 (aaV _ this);have:=i.gd.gc.ln;omega
theorem ac1(hl:ns.length<=63):zD [dI ns]=some (.bl true):=by
 have e:∃d,zD [dI ns]=some d/\d=.bl true:=by
  obtain⟨_,fs,w,h,n,t,rfl,hw,hh,h1,h2,h3⟩:=UT (m:=16) (by omega);refine qJ rfl (fG (cR rfl fs) ?_);have fg:=S3 (n:=n) (t:=t) (by omega) (by omega) (by omega);have i0:=gi0 (n:=n) (t:=t) (by omega) (by omega) (by omega);refine fG (by
   show(match Oo (.ins "Gate" []) [.int w,.int h,.int n,.int t] with|some (.aA,d)=>some (d,Tag.own)|_=>none)=_;rw[fg]) (fG rfl (fG rfl (fG rfl (fG rfl (fG rfl (fG rfl (gq (rL ns (b8 w h n t) (g0 w h n t) [] [] [] [] 0 false none none none) ?_)))))))
  refine Nd (λj ρ=>∃g es m R s9 iD gz,ρ=rL ns (b8 w h n t) g g.ln g.ta g.en es m g.ht s9 iD gz/\Iv w h n t j g es m R) (Q4 (aK (d1:=.int ((48:Nat):Int)) rfl (bf rfl HA) min2) (by omega)) ⟨g0 w h n t,[],0,[],none,none,none,rfl,i0,⟨rfl,rfl,(λq m=>nomatch m),(λq m=>nomatch m),(λq m=>nomatch m)⟩,⟨Kb.nil,λk=>by show(0:Int)<=0/\(0:Int)<=4;omega⟩,rfl,abT _,abT _,rfl,rfl,rfl,rfl⟩ (λj ρ hj hI=>?_) λρ hI=>?_
  .obtain⟨g,es,m,R,s9,iD,gz,e,I⟩:=hI;subst e;rw[Int.zero_add];obtain⟨I,c,sv,hm,mj,rl,ew,eh,en,et⟩:=I;subst ew eh en et;refine⟨rL ns (b8 g.w g.h g.n g.t) g g.ln g.ta g.en es m g.ht (some (.int j,.sh [])) iD gz,rfl,?_⟩;have gl:=I.gd.gc.ln;have ll:=I.gd.len;have Wv:=Cy (g:=g);obtain⟨_,fw,s,rfl,wa,ww,wc⟩:=af5 (q:=(j:Int)) (by omega);refine fG (cR (ps:=[(dI ns,.sh []),(.int j,.sh []),(.bl g.ht,.sh [8]),(.lst (bS g.lk),.own),(iL (wl g++g.ld),.own)]) (by
    rw[aX,aX,aX,aX,aX,f_ rfl Ip,aK (f_ rfl (t_ (by omega))) (f_ rfl JO) (pP (by rw[aeV];omega))];rfl) fw) (gq (rL ns (b8 g.w g.h g.n g.t) g g.ln g.ta g.en es m g.ht (some (.int j,.sh [])) (some (.str s,.own)) gz) ?_)
   refine wj (I:=λρ=>∃g' d8 R' b gz,ρ=rL ns (b8 g.w g.h g.n g.t) g' g'.ln g'.ta g'.en d8 m b (some (.int j,.sh [])) (some (.str s,.own)) gz/\Gi (j+1) g'/\Ce g' R'/\R'.length<=j+1/\Sv d8/\g'.C.length=(if s="ask" then m+1 else m)/\(g'.w=g.w/\g'.h=g.h/\g'.n=g.n/\g'.t=g.t)/\g'.ht=(if s="stop" then true else if s="go" then false else b)) (ue rfl (λhA=>?_) λhA=>?_) λρ hI=>?_
   .have hs:=eq_of_beq hA;subst hs;obtain⟨_,_,fa,L,u,ld,gr,ml,rfl,rfl,i'⟩:=Y3 (q:=(j:Int)) (by omega) I (by omega) (wa rfl);obtain⟨R',c',PZ⟩:=ae8 (w:=u) (ld:=ld) (gr:=gr) I c ml;obtain⟨p,p1,p2,p3,eL,_⟩:=I.mem ml;have k5:(aV g L u).C=g.C/\((aV g L u).w=g.w/\(aV g L u).h=g.h/\(aV g L u).n=g.n/\(aV g L u).t=g.t)/\(aV g L u).ht=g.ht/\(aV g L u).ln=if(word g.n g.t (hd g.ta L++[u]) == "yes")=true then L else g.ln:=by
     unfold aV
     split<;>exact⟨rfl,⟨rfl,rfl,rfl,rfl⟩,rfl,rfl⟩
    refine gu (FH (Mp (ps:=[(dI ns,.sh []),(.int j,.sh []),(gD g,.sh [2]),(v7 g.ta,.sh [4]),(.lst g.en,.sh [5]),(b8 g.w g.h g.n g.t,.sh [1])]) rfl fa)) (gq (rL ns (b8 g.w g.h g.n g.t) (dD { aV g L u with ld:=ld,gr:=gr }) g.ln (aV g L u).ta (aV g L u).en es m g.ht (some (.int j,.sh [])) (some (.str "answer",.own)) (some (.tup [tD L,.str (word g.n g.t (hd g.ta L++[u]))],.own))) ?_);refine gu (fV (bx rfl) rfl) ?_;have i1:∀v:D,aC v=true->∀{x:D} {i},dU [tD L,.str (word g.n g.t (hd g.ta L++[u]))] i=some v->dZ (.tup [tD L,.str (word g.n g.t (hd g.ta L++[u]))]) (.int i)=some v:=λv hv _ i e=>ach e hv
    have fin:∀ln,ln=(aV g L u).ln->∃r,some (Out.nx (rL ns (b8 g.w g.h g.n g.t) (dD { aV g L u with ld:=ld,gr:=gr }) ln (aV g L u).ta (aV g L u).en es m g.ht (some (.int j,.sh [])) (some (.str "answer",.own)) (some (.tup [tD L,.str (word g.n g.t (hd g.ta L++[u]))],.own))))=some r/\∃ρ',r=.nx ρ'/\∃g' d8 R' b gz,ρ'=rL ns (b8 g.w g.h g.n g.t) g' g'.ln g'.ta g'.en d8 m b (some (.int j,.sh [])) (some (.str "answer",.own)) gz/\Gi (j+1) g'/\Ce g' R'/\R'.length<=j+1/\Sv d8/\g'.C.length=(if("answer":Str)="ask" then m+1 else m)/\(g'.w=g.w/\g'.h=g.h/\g'.n=g.n/\g'.t=g.t)/\g'.ht=(if("answer":Str)="stop" then true else if("answer":Str)="go" then false else b):=λln e=>⟨_,rfl,_,rfl,dD { aV g L u with ld:=ld,gr:=gr },es,R',g.ht,some (.tup [tD L,.str (word g.n g.t (hd g.ta L++[u]))],.own),by rw[e];rfl,i',c',by omega,sv,by rw[if_neg (by decide +kernel)];exact(congrArg List.length k5.1).trans hm,k5.2.1,by rw[if_neg (by decide +kernel),if_neg (by decide +kernel)];exact k5.2.2.1⟩
    have t1:tV (e2 oEq (e2 dZ (aj 11) (eC (.int 1))) (eC (.str "yes"))) (rL ns (b8 g.w g.h g.n g.t) (dD { aV g L u with ld:=ld,gr:=gr }) g.ln (aV g L u).ta (aV g L u).en es m g.ht (some (.int j,.sh [])) (some (.str "answer",.own)) (some (.tup [tD L,.str (word g.n g.t (hd g.ta L++[u]))],.own)))=some (word g.n g.t (hd g.ta L++[u]) == "yes"):=bx (aK (aK rfl rfl (i1 _ rfl (x:=.aA) rfl)) rfl rfl);have hi:e1 qz (e2 dZ (aj 11) (eC (.int 0))) (rL ns (b8 g.w g.h g.n g.t) (dD { aV g L u with ld:=ld,gr:=gr }) g.ln (aV g L u).ta (aV g L u).en es m g.ht (some (.int j,.sh [])) (some (.str "answer",.own)) (some (.tup [tD L,.str (word g.n g.t (hd g.ta L++[u]))],.own)))=some (iL L,.own):=bf (aK rfl rfl (i1 _ (sJ _) (x:=.aA) rfl)) (if_pos (eO _));cases hy:(word g.n g.t (hd g.ta L++[u]) == "yes") with
    |true=>
     rw[hy] at t1;have hc:e2 mW (lZ (e1 qz (e2 dZ (aj 11) (eC (.int 0)))) (e1 d7 (aj 3))) (aj 3) (rL ns (b8 g.w g.h g.n g.t) (dD { aV g L u with ld:=ld,gr:=gr }) g.ln (aV g L u).ta (aV g L u).en es m g.ht (some (.int j,.sh [])) (some (.str "answer",.own)) (some (.tup [tD L,.str (word g.n g.t (hd g.ta L++[u]))],.own)))=some (.bl false,.own):=by
      have:g.ln.length<=L.length:=by rw[eL,qN p3];omega
      refine aK (d1:=iL g.ln) (t1:=.own) (d2:=iL g.ln) ?_ rfl ((RP _ _).trans (by rw[aa1 rfl];rfl));unfold lZ;rw[hi,bf rfl n8];show(if aN (L.map D.int)=true then some (D.lst (cutD (L.map D.int) none (some (g.ln.length:Int))),Tag.own) else none)=_;rw[if_pos (eO _),BU (by rw[List.length_map];exact this),<- List.map_take,eL];unfold cQ;rw[List.take_left];rfl
     obtain⟨r,e,q⟩:=fin L (by rw[k5.2.2.2,if_pos hy]);exact⟨r,(fL t1 (sq (fV (bx hc) rfl) (by rw[j9,hi];rfl))).trans e,q⟩
    |false=>
     rw[hy] at t1;obtain⟨r,e,q⟩:=fin g.ln (by rw[k5.2.2.2,hy];rfl);exact⟨r,(fV t1 rfl).trans e,q⟩
   .obtain⟨_,_,fd,g',d8,rfl,rfl,i',G9,dn,hC⟩:=Xd (ns:=ns) (q:=(j:Int)) (s:=s) (es:=es) (m:=m) (by omega) I sv hm (by omega) ww (by
     rcases wc with h|h|h|h|h
     .exact .inl h
     .exact .inr (.inl h)
     .rw[h] at hA;exact absurd hA (by decide +kernel)
     .exact .inr (.inr (.inl h))
     .exact .inr (.inr (.inr h)))
    refine⟨.nx (rL ns (b8 g.w g.h g.n g.t) g' g.ln g.ta g.en d8 m g.ht (some (.int j,.sh [])) (some (.str s,.own)) (rZ 6 (rZ 2 gz))),?_,_,rfl,g',d8,R,g.ht,rZ 6 (rZ 2 gz),by rw[dn.ln,dn.ta,dn.en],i'.up,c.keep dn,by omega,G9,hC,⟨dn.w,dn.h,dn.n,dn.t⟩,dn.ht⟩;unfold vC I_;rw[Tw (ab9 (ps:=[(dI ns,.sh []),(.int j,.sh []),(.str s,.sh [10]),(gD g,.sh [2]),(bK es,.sh [6]),(.int m,.sh [7])]) rfl fd) rfl];rfl
   obtain⟨g',d8,R',b,vd,e,i',c',PZ,G9,hC,⟨q1,q2,q3,q4⟩,eb⟩:=hI;subst e;have jU:∃m',m'=(if s="ask" then m+1 else m)/\m'<=j+1:=⟨_,rfl,by split<;>omega⟩
   obtain⟨m',em,jU⟩:=jU;rw[<- em] at hC;refine gu (ρ':=rL ns (b8 g.w g.h g.n g.t) g' g'.ln g'.ta g'.en d8 m' b (some (.int j,.sh [])) (some (.str s,.own)) vd) ?_ ?_
   .have t1:tV (e2 oEq (aj 10) (eC (.str "ask"))) (rL ns (b8 g.w g.h g.n g.t) g' g'.ln g'.ta g'.en d8 m b (some (.int j,.sh [])) (some (.str s,.own)) vd)=some (s == "ask"):=rfl
    by_cases hs:s="ask"
    .rw[if_pos hs] at em;rw[show(s==("ask":Str))=true by rw[hs];decide +kernel] at t1;subst em;exact fL t1 rfl
    .rw[if_neg hs] at em;rw[show(s==("ask":Str))=false from ado.mpr hs] at t1;subst em;exact fV t1 rfl
   refine gu (ρ':=rL ns (b8 g.w g.h g.n g.t) g' g'.ln g'.ta g'.en d8 m' g'.ht (some (.int j,.sh [])) (some (.str s,.own)) vd) ?_ ?_
   .have t1:jX (tV (e2 oEq (aj 10) (eC (.str "stop")))) (tV (e2 oEq (aj 10) (eC (.str "go")))) (rL ns (b8 g.w g.h g.n g.t) g' g'.ln g'.ta g'.en d8 m' b (some (.int j,.sh [])) (some (.str s,.own)) vd)=some (s == "stop"||s == "go"):=yk rfl rfl;rw[eb]
    by_cases hs:s="stop"
    .subst hs;exact fL t1 rfl
    .by_cases hg:s="go"
     .subst hg;exact fL t1 rfl
     .rw[ado.mpr hs,ado.mpr hg] at t1;rw[if_neg hs,if_neg hg];exact fV t1 rfl
   obtain⟨n1,n2⟩:=abw i';have gl':=i'.gd.len;refine gu (fV ((pX (kN (b:=true) (bx (cR (ps:=[(gD g',.sh [2]),(tD g'.ln,.own)]) (by rw[aX,aX,bf rfl ug];rfl) (L5 n1))))).trans (kN (b:=true) (bx (cR (ps:=[(gD g',.sh [2]),(tD (g'.ln++[61]),.own)]) (by rw[aX,aX,bf (aK (d2:=iL [61]) rfl rfl (pP (by rw[aeV];show _+1<=_;omega))) ug];rfl) (L5 n2))))) rfl) ?_;have fr:=M5 i' c' (by omega);rw[q1,q2,q3,q4] at fr;exact⟨_,fV (kN (b:=true) (bx (cR (ps:=[(gD g',.sh [2]),(iL g'.ln,.sh [3]),(.lst g'.en,.sh [5]),(b8 g.w g.h g.n g.t,.sh [1]),(.bl g'.ht,.sh [8])]) rfl fr))) rfl,_,rfl,g',d8,m',R',_,_,_,rfl,i',c',G9,hC,jU,PZ,q1,q2,q3,q4⟩
  .obtain⟨g,es,m,R,s9,iD,gz,e,I⟩:=hI;subst e;have fr:=M5 I.i I.c (by have:=I.rl;omega);rw[I.w,I.h,I.n,I.t] at fr;exact⟨_,cK (cR (ps:=[(gD g,.sh [2]),(iL g.ln,.sh [3]),(.lst g.en,.sh [5]),(b8 w h n t,.sh [1]),(.bl g.ht,.sh [8])]) rfl fr),_,rfl,rfl⟩
 obtain⟨_,e,rfl⟩:=e;exact e
end K90
namespace HT
open PySem PySem.W PyProof.Rows
section
variable{K:Params->Frag}
end
end HT
namespace K90
open PySem L2 L2.Ev
local macro_rules | `(tactic| walk_at "ba")=>`(tactic| first | exact ba_n 1 rfl fun _ _ _ _ _ _ _=>rfl | exact ba_n 2 rfl fun _ _ _ _ _ _ _=>rfl | exact ba_n 3 rfl fun _ _ _ _ _ _ _=>rfl | exact ba_n 4 rfl fun _ _ _ _ _ _ _=>rfl | exact ba_n 5 rfl fun _ _ _ _ _ _ _=>rfl | exact ba_n 6 rfl fun _ _ _ _ _ _ _=>rfl)
set_option maxHeartbeats 0 in
theorem all_mk{l:PySem.W.OpenLaw}{w:World}{K:PySem.W.Frag}{h:Heap}{mg:Str->Option Value}{fa:Addr}(X:K.In h)(G:h.Ns mainGlobals mg)(Ef:mg "law"=some (.ref fa))(q:rB L K=true)(t:tab.map (look K)=tab.map want):
  ∃fd:FuncData,(∀(s:Shared) (v:Value),BindsTo s fd ⟨[v],[]⟩ [("_law_script",v)])/\∀base:Heap,K.In base->base.Ns mainGlobals mg->bX l.prog w K mg base c9 15 fa fd ["_law_script"] (bz K zD):=by
 refine Y6 (sp:=λ_=>bz K zD) X G Ef (PV (s:=top 60) 29 t rfl) (λ_ _ _ _ _ _ _ _=>.of_eq rfl) λbase _ _ _ _ F=>?_
 have E:En L ⟨l.prog,w,K,mg,base⟩:=abP X G q;have W0:=d9 X G t 0 (Gj _ E);have W1:=d9 X G t 1 (Hy _ ⟨E,W0⟩);have W2:=d9 X G t 2 (Ec _ E);have W3:=d9 X G t 3 (Io _ ⟨E,W2⟩);have W30:=F4 t q 30 (QA _ E);have W39:=F4 t q 39 (Jg _ ⟨E,W3,W2,W30⟩);have W4:=d9 X G t 4 (Dq _ ⟨E,W0⟩);have JC:=cY t 31 (DH _ E);have W40:=cY t 40 (J7 _ E);have uT:=cY t 41 (Iu _ ⟨E,JC,W40⟩);have Hl:=cY t 42 (Hs _ E);have JY:=cY t 43 (EX _ E);have W5:=d9 X G t 5 (DY _ ⟨E,W0⟩);have W6:=d9 X G t 6 (Fv _ E);have Rf:=cY t 66 (GY _ E);have W67:=cY t 67 (Fd _ ⟨E,Rf⟩);have W68:=F4 t q 68 (GO _ ⟨E,W3⟩);have W44:=cY t 44 (E3 _ E);have Jw:=cY t 32 (E5 _ ⟨E,W2,JC⟩);have C0:=cY t 33 (EI _ ⟨E,Jw⟩);have L_:=cY t 34 (Il _ ⟨E,C0⟩);have W45:=cY t 45 (Jy _ ⟨E,uT,L_⟩);have Gy:=cY t 46 (CW _ ⟨E,Rf⟩);have Gb:=cY t 47 (Jp _ E);have Jf:=cY t 48 (Dr _ ⟨E,Gy,Gb⟩);have W7:=d9 X G t 7 (FD _ E);have W8:=d9 X G t 8 (EN _ E);have W9:=d9 X G t 9 (Sj _ ⟨E,W7,W8⟩);have Ba:=cY t 35 (CV _ ⟨E,C0⟩);have Sq:=d9 X G t 10 (Ex _ ⟨E,W9,Ba⟩);have Xn:=d9 X G t 11 (IE _ ⟨E,Sq⟩);have W36:=cY t 36 (Ib _ ⟨E,C0⟩);have Ti:=d9 X G t 12 (EM _ ⟨E,W36⟩);have W13:=d9 X G t 13 (J4 _ ⟨E,W7,Ba⟩);have W14:=d9 X G t 14 (DL _ ⟨E,Ti,W13⟩);have M1:=d9 X G t 15 (GW _ ⟨E,L_⟩);have Uw:=d9 X G t 16 (Ih _ ⟨E,Xn,W14,M1,Ba⟩);have W49:=cY t 49 (Dj _ ⟨E,Jf,Gb,Gy⟩);have W50:=cY t 50 (Jr _ ⟨E,Sq⟩);have X3:=d9 X G t 17 (Ht _ ⟨E,W7⟩);have W51:=cY t 51 (D_ _ ⟨E,M1,uT,W50,X3,Ba⟩);have W52:=cY t 52 (G3 _ ⟨E,Jf,Uw,uT,W49,W51⟩);have Xs:=cY t 53 (HU _ ⟨E,Gy⟩);have X5:=d9 X G t 18 (HP _ E);have W19:=d9 X G t 19 (JW _ ⟨E,X5⟩);have W54:=cY t 54 (Gq _ ⟨E,Xs,Gb,W19,Jf⟩);have xP:=cY t 55 (Dt _ ⟨E,W45,W52,W54⟩);have W56:=cY t 56 (GU _ ⟨E,W67,W68,W44,xP⟩);have XY:=d9 X G t 20 (GI _ ⟨E,JY,W0,W5,W6,W56⟩);have Y7:=d9 X G t 21 (HM _ ⟨E,W0⟩);have Vu:=d9 X G t 22 (Jm _ ⟨E,W0,Y7⟩);have Nn:=d9 X G t 23 (HW _ E);have Yu:=d9 X G t 24 (Fp _ ⟨E,W2,Nn⟩);have W37:=cY t 37 (HH _ ⟨E,W2,Nn,Jw,Yu⟩);have Uj:=cY t 38 (GX _ ⟨E,W37,JC⟩);have WK:=cY t 57 (Jl _ ⟨E,Uj,xP⟩);have Zz:=cY t 58 (Dp _ ⟨E,Jw,xP⟩);have W59:=cY t 59 (Dh _ ⟨E,xP⟩);have WE:=cY t 60 (Ep _ ⟨E,xP⟩);have VZ:=d9 X G t 25 (EE _ ⟨E,Vu,WK,uT,Hl,Zz,W0,W59,WE⟩);have XI:=W_r t 61 (IJ _ E);have W26:=d9 X G t 26 (HD _ ⟨E,XI⟩);have MC:=cY t 62 (Ea _ E);have U1:=cY t 63 (E2 _ E);have WQ:=cY t 64 (J8 _ E);have W65:=cY t 65 (G8 _ E);have Xp:=d9 X G t 27 (DC _ ⟨E,Hl,JY,MC,uT⟩);have W28:=d9 X G t 28 (Jk _ ⟨E,MC,U1,WQ,W65,Xp⟩);exact o_law _ ⟨E,W1,W39,W4,uT,Hl,JY,XY,VZ,W26,W28⟩ _ _ F
theorem wk:Wk:=λhY hT hL hq ht zp XD=>
 L2.afx (n:=63) (k:=15) (x:="_law_script") (CX:=λ_=>c9) (sp:=λw=>bz (_:PySem.W.Frag) zD) rfl (by decide) zp ⟨λ_=>rfl,by decide,by decide,rfl⟩ hY hT hL (λw mg fa h KX G zE=>all_mk KX G (XD ▸ zE) (hq w) (ht w)) (λw H a ns hl hz=>by
  refine⟨[dI ns],[]++[],.bl true,.cons (.Av hz (wN ns)) .nil,ac1 hl,λH' v gP _ r _ _=>?_⟩;cases r;rfl) λ_ _ _ _ _ z=>z
open PySem PySem.W PyProof.Rows L2 L2.Ev
end K90
theorem PySem.Challenge.cw_linegate_k90_whole_line_looked_at_holds : PySem.Challenge.rw_linegate_k90_whole_line_looked_at.Holds := by
 exact K90.early K90.wk
