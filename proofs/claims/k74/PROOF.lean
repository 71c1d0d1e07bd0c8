import PyProof.Rows.All
import Wide.All
import OpenK.AllK
import Wide.FinOn
import PySem.Challenge.RW_haulbell_k74_floor_between
import Lean
import PyProof.EqAt
import PyProof.EqKinds
import PyProof.TupleCall
import PyProof.EnumStmt
import PyProof.NeKinds
import PyProof.ExcAttrAll.ValueError
import PyProof.ExcInit
import PyProof.StationsW
import PyProof.NsDelKeeps
import PyProof.InstStoreFacts
import PyProof.ZipIter
import PyProof.IsiBase
import PyProof.AttrMiss
import KE.KDictOf
import KE.KDictList
import PyProof.InstEq
import PyProof.Rows.Range3
import PyProof.StrOps2
import KE.LcSums
open PySem.W renaming behindTheImports→ac
open PySem renaming wpAny_bind→ad,wpAny_pure→am,wpAny_field→ap,wpAny_holding→bd,wpAny_truthy_bool→bi,starEach→bm,sizeLine→bn,wpAny_Call_Name_kw→bv
open List renaming length_map→ce,length_append→ci,mem_of_getElem?→cr,length_take→db,mem_cons_of_mem→dL,map_append→f8,length_singleton→ge,size_toArray→ii,mem_append_right→im,getElem?_map→io,length_drop→jp,append_assoc→le,getElem?_eq_getElem→li,mem_cons_self→mo,mem_cons→nb
open Bool renaming and_eq_true→nl
open Option renaming map_eq_some_iff→nw
open Nat renaming lt_of_lt_of_le→ol,le_of_ble_eq_true→pc,ne_of_lt→pi,le_refl→re
open Int renaming toNat_natCast→sn,eq_ofNat_of_zero_le→sw
open List renaming replicate→sK,getElem?_eq_some_iff→tz
open PySem.Heap renaming get?_push_of_some→ul,lt_size→ut,get?_push_size→v6
set_option linter.all false
set_option maxRecDepth 100000
set_option Elab.async false
set_option compiler.extract_closed false
theorem My.kleA {a b k:Nat}(h:a<=k)(e:Nat.ble (b+1) a=true):b<=k-1:=Nat.le_sub_one_of_lt (ol (pc e) h)
theorem My.kleB {a b k:Nat}(h:a<=k)(e:Nat.ble b a=true):b<=k:=Nat.le_trans (pc e) h
set_option hygiene false
local macro_rules| `(tactic|sleep $n:num)=>`(tactic|((conv at h=>lhs;whnf);iterate $n (split at h;rotate_left;cases h)))
set_option hygiene true
local macro_rules|`(command|abbrev $i:declId $s:optDeclSig $v:declVal)=>`(command|noncomputable def $i:declId $s:optDeclSig $v:declVal)
local macro_rules|`(command|def $i:declId $b:bracketedBinder* :$t $v:declVal)=>`(command|theorem $i:declId $b:bracketedBinder* :$t $v:declVal)
local macro_rules|`(nofun)=>`(by first|exact My.kleA (by assumption) (by rfl)|exact My.kleB (by assumption) (by rfl)|lia|omega)
local macro_rules|`(tactic|omega)=>`(tactic|lia)
noncomputable abbrev My.pr:PySem.Program:=PySem.Challenge.rw_haulbell_k74_floor_between.row.prog
open PySem PySem.W in
set_option maxHeartbeats 0 in
def My.Ib:PySem.Challenge.rw_haulbell_k74_floor_between.wellSaid=true:=by
  rewrite [Fast.te9446332074065402090]
  kernel_rfl
namespace L2
open PySem PySem.Spec
abbrev inClass (s:Stmt)(j:Nat):Stmt:=match s with
  | .ClassDef _ _ _ body _ _ _ _ _ _ _=>body.getD j (.Pass ⟨0,0,0,0⟩)
  |_=>.Pass ⟨0,0,0,0⟩
abbrev uV (s:Stmt):Arguments:=match s with
  | .FunctionDef _ a _ _ _ _ _ _ _ _=>a
  |_=>{ posonlyargs:=[],args:=[],vararg:=none,kwonlyargs:=[],kw_defaults:=[],kwarg:=none,defaults:=[] }
abbrev uq (s:Stmt):List Stmt:=match s with
  | .FunctionDef _ _ b _ _ _ _ _ _ _=>b
  |_=>[]
abbrev rp (s:Stmt):Scope:=match s with
  | .FunctionDef _ _ _ _ _ _ sc _ _ _=>sc
  |_=>{ kind:=.function,names:=[],isGenerator:=false,isCoroutine:=false }
end L2
namespace My
open PySem L2 PySem.W
abbrev top (i:Nat):Stmt:=PySem.Challenge.pw_haulbell_k74_floor_between.main.body.getD i (.Pass ⟨0,0,0,0⟩)
abbrev tq (i j:Nat):Stmt:=inClass (top i) j
/-- the top's run on a tree -/
abbrev l7 (tb:String->Option Builtin)(p:Program)(w:World)(m:Nat)(ann:Option Value):Nat->SharedT->Thread->Option SharedT
  |0,_,_=>none
  |n+1,s,t=>match through t with
    |true=>some s
    |false=>match stepOk m ann t with
      |false=>none
      |true=>match stepT (denote tb) p w s t with
        |some r=>l7 tb p w m ann n r.1 r.2
        |none=>none
def uO {tb:String->Option Builtin}{p:Program}{w:World}{m:Nat}{ann:Option Value}:∀ {n:Nat}{s s':SharedT}{t:Thread},l7 tb p w m ann n s t=some s'->topRun tb p w m ann n s.abs t=some s'.abs
  |0,_,_,_,h=>by cases h
  |n+1,s,s',t,h=>by
    unfold l7 at h;unfold topRun;cases a:through t
    · rw[a]at h;dsimp only at h⊢
      cases b:stepOk m ann t
      · rw[b]at h;cases h
      · rw[b]at h;dsimp only at h⊢
        cases c:stepT (denote tb) p w s t with
        |none=>rw[c]at h;cases h
        |some r=>rw[c]at h;rw[stepT_spec c];exact uO h
    · rw[a]at h;cases h;rfl
abbrev EB:Nat->BT->List Obj->BT
  |_,t,[]=>t
  |n,t,o::os=>EB (n+1) (t.ins n o) os
abbrev xy (P:Params):BT:=EB 0 .nil (boot_heap P).objs.toList
abbrev JF (P:Params)(os:OsState):SharedT:=⟨xy P,11,(boot_heap P).life,Array.mk [],boot_drawn,boot_toks,os⟩
def vY {p q:Program}{loose:List Str}{Xt:Shared->Bool}{α:Type}{Yf:Shared->α}{Ya:World->α}{N:Nat}(e:opening p=plainProg p.main.scope.names)(hN:Nat.ble 600 N=true)(f:∀ s,fenceModules? p s=some s)
    (h0:∀ P,absHeap (xy P) 11 (boot_heap P).life=boot_heap P) (h1:∀ P,((boot_heap P).isNs mainGlobals,(boot_heap P).objs.size,(boot_heap P).nsMap mainGlobals "__annotations__")=(true,11,some (.ref 6)))
    (run:∀ (w:World) (os:OsState),(l7 treeTable p w 11 (some (.ref 6)) N (JF w.params os) (topStub p)).map (λs=>(staticsOk (importedModules p.main.body) (boot_heap w.params) s.abs.heap&&namesBound p s.abs.heap&&gensDone s.abs&&laidKept (boot_heap w.params) s.abs.heap,
      openSeen q loose (importedModules p.main.body) Xt true s.abs,Yf s.abs))=some (true,openGood q loose,Ya w)):LeftO p q loose Xt Yf Ya N:=λw=>by
  obtain⟨⟨hp,gs,d,k,os⟩,e1,e2⟩:=nw.mp (boot_open e hN f w);obtain⟨rfl,rfl,rfl,rfl⟩:hp=boot_heap w.params/\gs=Array.mk []/\d=boot_drawn/\k=boot_toks:=by simpa using e2
  obtain⟨z1,z2,z3⟩:_/\_/\_:=by simpa only [Prod.mk.injEq] using h1 w.params
  obtain⟨s,r,l⟩:=nw.mp (run w os);obtain⟨l1,l2,l3⟩:_/\_/\_:=by simpa only [Prod.mk.injEq] using l
  have r1:=uO r;have a0:(JF w.params os).abs=⟨boot_heap w.params,Array.mk [],boot_drawn,boot_toks,os⟩:=by
    show(⟨absHeap (xy w.params) 11 (boot_heap w.params).life,Array.mk [],boot_drawn,boot_toks,os⟩:Shared)=_;rw[h0]
  rw[a0]at r1;unfold openEnds;rw[e1];have t:topFrom treeTable p w N ⟨boot_heap w.params,Array.mk [],boot_drawn,boot_toks,os⟩=some s.abs:=by
    unfold topFrom;dsimp only;rw[z1,z2,z3,r1];show(match staticsOk (importedModules p.main.body) (boot_heap w.params) s.abs.heap&&namesBound p s.abs.heap&&gensDone s.abs&&laidKept (boot_heap w.params) s.abs.heap with|true=>some s.abs|false=>none)=some s.abs;rw[l1]
  show(topFrom treeTable p w N _).map _=_;rw[t];exact congrArg some (Prod.ext l2 l3)
abbrev J0:List Addr:=2::3::30::31::47::48::50::51::66::67::69::70::85::86::88::89::104::105::107::108::123::124::126::127::142::143::145::146::161::162::164::165::180::181::183::184::199::200::202::203::218::219::221::222::230::231::237::238::239::245::246::252::253::259::260::268::274::275::281::282::288::289::293::294::300::301::303::304::314::315::321::322::331::332::349::350::356::357::363::364::366::367::382::383::389::390::396::397::399::400::415::416::422::423::429::430::432::433::448::449::455::456::462::463::465::466::481::482::488::489::495::496::498::499::507::508::514::515::521::522::530::536::537::543::544::550::551::557::558::578::579::592::593::597::598::604::605::607::608::613::619::620::626::627::633::634::647::648::654::655::661::662::675::676::682::683::689::690::696::697::710::711::713::714::724::725::731::732::738::739::743::744::750::751::757::758::764::765::776::777::783::784::790::791::797::798::818::819::832::833::839::840::842::843::853::854::860::861::869::875::876::882::883::889::890::892::893::901::902::908::909::915::916::922::923::929::930::936::937::950::951::957::958::960::961::976::977::983::984::986::987::1002::1003::1009::1010::1012::1013::1028::1029::1035::1036::1038::1039::1054::1055::1061::1062::1064::1065::1080::1081::1087::1088::1090::1091::1099::1100::1106::1107::1120::1121::1127::1128::1134::1135::1141::1142::1148::1149::1155::1156::1162::1163::1169::1170::1176::1177::1183::1184::1188::1189::1193::1194::1200::1201::1205::1206::1212::1213::1219::1220::1226::1227::1233::1234::1240::1241::1247::1248::1254::1255::1261::1262::[]
abbrev Kg:List Addr:=48::67::86::105::124::143::162::181::200::219::231::238::246::253::260::275::282::289::294::301::315::322::350::357::364::383::390::397::416::423::430::449::456::463::482::489::496::508::515::522::537::544::551::558::579::593::598::605::620::627::634::648::655::662::676::683::690::697::711::725::732::739::744::751::758::765::777::784::791::798::819::833::840::854::861::876::883::890::902::909::916::923::930::937::951::958::977::984::1003::1010::1029::1036::1055::1062::1081::1088::1100::1107::1121::1128::1135::1142::1149::1156::1163::1170::1177::1184::1189::1194::1201::1206::1213::1220::1227::1234::1241::1248::1255::1262::[]
abbrev Ls:List Addr:=[31,51,70,89,108,127,146,165,184,203,222,304,332,367,400,433,466,499,608,714,843,893,961,987,1013,1039,1065,1091]
abbrev runK (tb:String->Option Builtin)(p:Program)(w:World)(m:Nat)(ann:Option Value):Nat->SharedT->Thread->Option (SharedT×Thread)
  |0,s,t=>some (s,t)
  |n+1,s,t=>match through t with
    |true=>none
    |false=>match stepOk m ann t with
      |false=>none
      |true=>match stepT (denote tb) p w s t with
        |some r=>runK tb p w m ann n r.1 r.2
        |none=>none
def cD {tb:String->Option Builtin}{p:Program}{w:World}{m:Nat}{ann:Option Value}{k:Nat}:∀ {n:Nat}{s:SharedT}{t:Thread}{r:SharedT×Thread},runK tb p w m ann n s t=some r->l7 tb p w m ann (n+k) s t=l7 tb p w m ann k r.1 r.2
  |0,s,t,r,h=>by
    rw[Nat.zero_add];cases h
    rfl
  |n+1,s,t,r,h=>by
    rw[Nat.succ_add];unfold runK at h;conv=>lhs;unfold l7
    cases a:through t
    · rw[a]at h;dsimp only at h⊢
      cases b:stepOk m ann t
      · rw[b]at h;cases h
      · rw[b]at h;dsimp only at h⊢
        cases c:stepT (denote tb) p w s t with
        |none=>rw[c]at h;cases h
        |some r=>rw[c]at h;exact cD h
    · rw[a]at h;cases h
abbrev kT (x y:Str)(s:Stmt):Obj:=⟨.none,none,.func { name:=x,qualname:=y,params:=uV s,body:=.stmts (uq s),scope:=rp s,globals:=builtinsNs,closure:=[],defaults:=.none,kwdefaults:=.none },#[]⟩
abbrev bo (P:Params)(i:Nat):Obj:=(boot_heap P).objs.toList.getD i ⟨.none,none,.plain,#[]⟩
abbrev i8 (p:Program):Env:={ scope:=p.main.scope,locals:=mainNs,globals:=mainNs,cells:=[],code:=.ref 13,frame:=some 14 }
abbrev Lp:Frame:=.ret (λx=>Sem.bind (match x with| .ok f=>Sem.pure f| .error e=>Sem.raise e) (λ_=>ret .none)) none false [] (.builtin "claim.caller" {}) default []
abbrev BS (p:Program)(X:List Stmt):Sem Fin:=Sem.bind (Sem.onRaise (execs X (i8 p)) (leaving (i8 p))) (λa=>Sem.pure (Fin.done a))
abbrev lK (p:Program)(X:List Stmt)(q:Pos):Thread:=⟨BS p X,.body (ac p) (i8 p),q,[Lp]⟩
def xX {tb:String->Option Builtin}{p:Program}(h:blockStart (ac p) (i8 p)=Sem.pure ()):denote tb (.body (ac p) (i8 p))=BS p (ac p):=by
  show Sem.bind (blockStart (ac p) (i8 p)) (λ_=>BS p (ac p))=_;rw[h]
  rfl
abbrev o0:Obj:=⟨.type "tuple",none,.seq #[] 0,#[]⟩
abbrev oN:Obj:=⟨.none,none,.fields #[],#[]⟩
abbrev oL:List Str->Nat->List Value
  | [],_=>[]
  |x::r,t=>.str x t::oL r (t+1)
abbrev oS (l:List Str)(t:Nat):Obj:=⟨.type "tuple",none,.seq (Array.mk (oL l t)) 0,#[]⟩
abbrev JV (l:List (Int×Nat)):Array Value:=(l.flatMap λp=>[.int p.1 0,.int 0 0,.ref p.2]).toArray
abbrev Ln:List (Int×Nat):=[(1,20),(5,27),(7,40),(12,59),(19,78),(25,97),(31,116),(36,135),(41,154),(46,173),(51,192),(56,211),(63,230),(65,237),(69,245),(71,252),(73,259),(81,266),(110,314),(113,321),(116,328),(118,342)]
abbrev LP:List (Int×Nat):=Ln++[(132,375),(146,408),(160,441),(172,474),(189,507),(195,514),(198,521),(205,528),(253,619),(259,626),(261,633),(263,640)]
abbrev Lv:List (Int×Nat):=LP++[(311,724),(317,731),(326,738),(328,743),(332,750),(334,757),(345,764),(347,771),(391,853),(393,860),(395,867),(414,901),(416,908),(418,915),(421,922),(424,929),(427,936),(434,943),(446,969),(457,995)]
abbrev Mr:List (Int×Nat):=Lv++[(472,1021),(489,1047),(507,1073),(523,1099),(529,1106),(545,1113),(547,1120),(558,1127),(573,1134),(585,1141),(589,1148),(612,1155),(620,1162),(631,1169),(654,1176),(683,1183),(701,1188),(703,1193),(710,1200),(719,1205),(725,1212),(730,1219),(738,1226),(743,1233),(749,1240),(757,1247),(762,1254)]
abbrev oI (l c a:Nat):Obj:=⟨.none,none,.fields #[.int l 0,.int c 0,.ref a],#[]⟩
abbrev oK (x:Str)(t l r:Nat):Obj:=⟨.type "code",none,.fields #[.str x t,.str x (t+1),.str "/claim/cut.py" (t+2),.int l 0,.int 0 0,.int 0 0,.int 0 0,.int 0 0,.ref r,.bool false,.int 181 0,.ref (r+1),.none,.none,.none,.none,.int (t+3:Nat) 0,.int l 0,.str "/claim/cut.py" (t+4)],#[]⟩
abbrev oC (x y:Str)(t l n r u:Nat):Obj:=⟨.type "code",none,.fields #[.str x t,.str y (t+1),.str "/claim/cut.py" (t+2),.int l 0,.int n 0,.int 0 0,.int 0 0,.int 3 0,.ref r,.bool true,.int 181 0,.ref (r+1),.none,.ref (r+2),.ref (r+3),.ref (r+4),.int u 0,.int l 0,.str "/claim/cut.py" (u+1)],#[]⟩
abbrev oF (x y:Str)(s:Stmt)(m:Str)(t c:Nat)(d:Value:=.none):Obj:=⟨.type "function",none,.func (fnOf x y (uV s) (uq s) (rp s) d .none .none (.str m t) none (.ref c) .none),#[]⟩
abbrev oR (a b:Nat)(m:Str)(t:Nat):Obj:=⟨.type "frame",none,.plain,#[some (.ref a),some (.ref 3),some (.ref b),none,some (.str m t),none,some (.ref 0)]⟩
abbrev oX (x:Str)(b m:List Value)(n:Addr)(s:List Value)(r t u:Nat)(w:String):Obj:=⟨.type "type",none,.cls ⟨x,b,m,n,x,true,[],s,false,none,false⟩,#[some (.ref r),none,some (.str x t),some (.str x u),some (.builtin w),some (.bool true)]⟩
abbrev oU (a:Addr):Obj:=⟨.type "super",none,.fields #[.ref a,.ref a,.ref a],#[]⟩
abbrev oJ (a:Addr):Obj:=⟨.type "builtin_function_or_method",none,.fields #[.builtin "object.__init_subclass__",.ref a],#[]⟩
abbrev oP:Obj:=⟨.type "builtin_function_or_method",none,.fields #[.builtin "type.__prepare__",.type "type"],#[]⟩
abbrev oQ (a:Addr):Obj:=⟨.type "tuple",none,.seq #[.ref a] 0,#[]⟩
abbrev fG (x y:Str)(s:Stmt)(m:Str)(mt:Nat)(l:List Str)(t ln n a:Nat)(r:List Obj):List Obj:=o0::oN::oS l (t+3)::o0::kT x y s::oC x y t ln n a (t+3+l.length)::oF x y s m mt (a+5)::r
abbrev oW:List (Nat×Obj)->List Obj->List Obj
  | [],l=>l
  |x::r,l=>(oW r l).set x.1 x.2
abbrev eV (x:Str)(t:Tok)(v:Value)(P:Params):DictEntry:=⟨PyData.keyHash P x,.str x t,v⟩
abbrev eM (t:Nat)(m:Str)(u:Nat):Params->DictEntry:=eV "__module__" t (.str m u)
abbrev eQ (t:Nat)(m:Str)(u:Nat):Params->DictEntry:=eV "__qualname__" t (.str m u)
abbrev eF (t l u:Nat):Params->DictEntry:=eV "__firstlineno__" t (.int l u)
abbrev eS (t a:Nat):Params->DictEntry:=eV "__static_attributes__" t (.ref a)
abbrev eN (t:Nat):Params->DictEntry:=eV "__doc__" t .none
abbrev eR (x:Str)(t a:Nat):Params->DictEntry:=eV x t (.ref a)
abbrev oD (P:Params)(es:List (Params->DictEntry))(n:Nat):Obj:=⟨.type "dict",none,.dict (Array.mk (es.map λf=>f P)) n,#[]⟩
abbrev LU (P:Params):List Obj:=
bo P 0::
bo P 1::
bo P 2::
bo P 3::
bo P 4::
bo P 5::
bo P 6::
bo P 7::
bo P 8::
bo P 9::
bo P 10::
o0::
oN::
oK "<module>" 182 1 11::
oR 13 3 "__main__" 164::[]
abbrev Mw (x y:Str)(t l n r:Nat):Obj:=⟨.type "code",none,.fields #[.str x t,.str y (t+1),.str "/claim/cut.py" (t+2),.int l 0,.int n 0,.int 0 0,.int 0 0,.int 3 0,.ref r,.bool true,.int 181 0,.ref (r+1),.none,.none,.none,.ref (r+2),.int (t+3:Nat) 0,.int l 0,.str "/claim/cut.py" (t+4)],#[]⟩
abbrev oG (x b:String)(v:Value)(a t:Nat):Obj:=⟨.type "getset_descriptor",none,.fields #[.str (Str.ofString x) t,.ref a,.builtin b,v],#[]⟩
@[reducible]def Mt:Type:=Str×Str×List Str×Nat×Nat×List (Obj×Nat)
abbrev Dr (a t:Nat)(s:Stmt)(m:Str×Nat)(x y:Str)(l:List Str)(ln n:Nat)(d:Value):List Obj:=match l with
  | []=>o0::oN::kT x y s::Mw x y t ln n a::oF x y s m.1 m.2 (a+3) d::[]
  |_=>o0::oN::oS l (t+3)::o0::kT x y s::oC x y t ln n a (t+3+l.length)::oF x y s m.1 m.2 (a+5) d::[]
abbrev LJ (a t:Nat)(s:Stmt)(m:Str×Nat)(q:Mt):List Obj:=match q.2.2.2.2.2 with
  | []=>Dr a t s m q.1 q.2.1 q.2.2.1 q.2.2.2.1 q.2.2.2.2.1 .none
  |d::_=>d.1::Dr (a+1) (t+d.2) s m q.1 q.2.1 q.2.2.1 q.2.2.2.1 q.2.2.2.2.1 (.ref a)
abbrev DY (q:Mt)(a:Nat):Nat:=match q.2.2.1 with
  | []=>a+5+q.2.2.2.2.2.length
  |_=>a+7+q.2.2.2.2.2.length
abbrev Iq (q:Mt)(t:Nat):Nat:=match q.2.2.2.2.2 with
  | []=>t+6+q.2.2.1.length
  |d::_=>t+d.2+6+q.2.2.1.length
abbrev Lx (i:Nat)(m:Str×Nat):Nat->List Mt->Nat->Nat->(List Obj->Nat->Nat->List Obj)
  |_,[],_,_=>λr _ _=>r
  |j,q::l,a,t=>λr x y=>LJ a t (inClass (top i) j) m q++Lx i m (j+1) l (DY q a) (Iq q t) r x y
abbrev LS:List Mt->Nat->Nat
  | [],a=>a
  |q::l,a=>LS l (DY q a)
abbrev LH:List Mt->Nat->Nat
  | [],a=>a
  |q::l,a=>LH l (Iq q a)
abbrev LL:List Mt->Nat->Nat->List (Params->DictEntry)->List (Params->DictEntry)
  | [],_,_,r=>r
  |q::l,a,t,r=>eR q.1 (Iq q t-1) (DY q a-1)::LL l (DY q a) (Iq q t) r
abbrev LR:List Mt->Nat->List Value
  | [],_=>[]
  |q::l,a=>.int q.2.2.2.1 0::.int 4 0::.ref (DY q a-2)::LR l (DY q a)
@[reducible]def It:Type:=(Params->List Obj)×List (Params->DictEntry)×List Value
abbrev iF (a t i:Nat)(m:Str×Nat)(x:Str)(l:List Str)(ln n:Nat)(d:List (Obj×Nat):=[]):It:=(λ_=>LJ a t (top i) m (x,x,l,ln,n,d),eR x (Iq (x,x,l,ln,n,d) t-1) (DY (x,x,l,ln,n,d) a-1)::[],.int ln 0::.int 0 0::.ref (DY (x,x,l,ln,n,d) a-2)::[])
abbrev iR (o:Params->List Obj):It:=(o,[],[])
abbrev iE (x:Str)(t:Nat)(v:Value):It:=(λ_=>[],[eV x t v],[])
abbrev iC (a T i:Nat)(m:Str×Nat)(x:Str)(ln:Nat)(ms:List Mt)(st:List Str)(sub:List Value:=[]) (br:Nat:=0) (mro:List Value:=[]) (w:String:=""):It:=
  let b:=LS ms (a+7)
  let s:=LH ms (T+12)
  let e:=s+st.length
  let h (z:List (Params->DictEntry)):=eF (T+11) ln (T+10)::LL ms (a+7) (T+12) (eS e b::z)
  let o (y:List (Params->DictEntry)) (z k:Obj) (n:Nat) (r:List Obj) (P:Params):List Obj:=z::oP::oD P (eM (T+7) m.1 m.2::eQ (T+9) x (T+8)::h []) (4+ms.length)::o0::⟨.none,none,.fields (Array.mk (LR ms (a+7))),#[]⟩::oK x (T+2) ln (a+3)::oR (a+5) (a+2) m.1 m.2::Lx i m 0 ms (a+7) (T+12) ((match st with| []=>o0|_=>oS st s)::oD P (eM (T+7) m.1 m.2::h y) n::k::r) 0 0
  match br with
  |0=>(o [eR "__dict__" (e+2) (b+3),eR "__weakref__" (e+4) (b+4),eN (e+5)] o0 ⟨.type "type",none,.cls ⟨x,[.type "object"],[.ref (b+2),.type "object"],b+1,x,true,[],sub,false,none,false⟩,#[none,none,some (.str x T),some (.str x (T+8)),some (.builtin "object.__new__"),some (.bool true)]⟩ 4 [oG "__dict__" "function.__dict__" (.builtin "function.__dict__#set") (b+2) (e+1),oG "__weakref__" "ExceptionGroup.__weakref__" .none (b+2) (e+3),oU (b+2),oJ (b+2)],eR x (e+7) (b+2)::[],.int ln 0::.int 0 0::.ref (a+5)::[])
  |_=>(o [eN (e+1)] (oQ br) (oX x [.ref br] (.ref (b+2)::.ref br::mro) (b+1) sub a T (T+8) w) 2 [oU (b+2),oJ (b+2)],eR x (e+3) (b+2)::[],.int ln 0::.int 0 0::.ref (a+5)::[])
abbrev Hz (P:Params)(nm:Str)(nt n:Nat)(l:List It):List Obj:=bo P 0::bo P 1::bo P 2::oD P (eV "__name__" 165 (.str nm nt)::eN 166::eV "__package__" 167 .none::eV "__loader__" 168 (.builtin "__main__.__loader__#opaque")::eV "__spec__" 169 .none::eR "__annotations__" 170 6::eR "__builtins__" 171 4::eV "__file__" 173 (.str "/claim/cut.py" 172)::eV "__cached__" 174 .none::l.flatMap (·.2.1)) n::bo P 4::bo P 5::bo P 6::bo P 7::bo P 8::bo P 9::bo P 10::o0::⟨.none,none,.fields (Array.mk (l.flatMap (·.2.2))),#[]⟩::oK "<module>" 182 1 11::oR 13 3 "__main__" 164::l.flatMap (·.1 P)
abbrev Mo:Str×Nat:=("__main__",164)
abbrev Ax:Str×Nat:=("haulbell.errors",194)
abbrev Lu:Str×Nat:=("haulbell.wholes",472)
abbrev JW:Str×Nat:=("haulbell.boxes",490)
abbrev D6:Str×Nat:=("haulbell.deeds",595)
abbrev JY:Str×Nat:=("haulbell.machine",845)
abbrev JU:Str×Nat:=("haulbell.store",988)
abbrev LG:Str×Nat:=("haulbell.stretches",1126)
abbrev JM:Str×Nat:=("haulbell.parts",1148)
abbrev Ll:Str×Nat:=("haulbell.crew",1187)
abbrev Fy:Str×Nat:=("haulbell.hops",1307)
abbrev jQ:Str×Nat:=("haulbell.longs",1369)
abbrev cn:Str×Nat:=("law_haulbell_k74_floor_between",1623)
abbrev AA (a T i:Nat)(m:Str×Nat)(x:Str)(ln:Nat)(ms:List Mt)(st:List Str)(sub:List Value:=[]):It:=iC a T i m x ln ms st sub 31 [.type "ValueError",.type "Exception",.type "BaseException",.type "object"] "ValueError.__new__"
abbrev wW (a T i:Nat)(m:Str×Nat)(x:Str)(ln:Nat)(ms:List Mt)(st:List Str)(sub:List Value:=[]):It:=iC a T i m x ln ms st sub 332 [.type "object"] "object.__new__"
abbrev xg:List It:=
iF 15 187 0 Mo "_wall" ["k"] 1 1::
iE "HaulError" 213 (.ref 31)::
iR (λP=>[⟨.type "tuple",none,.seq #[.type "ValueError"] 0,#[]⟩,oP,oD P [eM 203 "haulbell.errors" 194,eQ 205 "HaulError" 204,eF 207 5 206,eS 208 29] 4,o0,oN,oK "HaulError" 198 5 25,oR 27 24 "haulbell.errors" 194,o0,oD P [eM 203 "haulbell.errors" 194,eF 207 5 206,eS 208 29,eR "__weakref__" 210 32,eN 211] 3,oX "HaulError" [.type "ValueError"] [.ref 31,.type "ValueError",.type "Exception",.type "BaseException",.type "object"] 30 [.ref 51,.ref 70,.ref 89,.ref 108,.ref 127,.ref 146,.ref 165,.ref 184,.ref 203,.ref 222] 22 196 204 "ValueError.__new__",⟨.type "getset_descriptor",none,.fields #[.str "__weakref__" 209,.ref 31,.builtin "ExceptionGroup.__weakref__",.none],#[]⟩,oU 31,oJ 31])::
AA 35 214 3 Ax "NoStore" 7 [("__init__","NoStore.__init__",["self","at"],9,2,[])] ["at"]::
AA 54 239 4 Ax "NoLeave" 12 [("__init__","NoLeave.__init__",["self","low","behind","word"],14,4,[])] ["behind","low","word"]::
AA 73 268 5 Ax "Stop" 19 [("__init__","Stop.__init__",["self","deed","cell"],21,3,[])] ["cell","deed"]::
AA 92 295 6 Ax "NoFit" 25 [("__init__","NoFit.__init__",["self","box","number"],27,3,[])] ["box","number"]::
AA 111 322 7 Ax "NoBox" 31 [("__init__","NoBox.__init__",["self","box"],33,2,[])] ["box"]::
AA 130 347 8 Ax "NoDeed" 36 [("__init__","NoDeed.__init__",["self","word"],38,2,[])] ["word"]::
AA 149 372 9 Ax "NoRows" 41 [("__init__","NoRows.__init__",["self","at"],43,2,[])] ["at"]::
AA 168 397 10 Ax "NoPlace" 46 [("__init__","NoPlace.__init__",["self","at"],48,2,[])] ["at"]::
AA 187 422 11 Ax "NoPart" 51 [("__init__","NoPart.__init__",["self","at"],53,2,[])] ["at"]::
AA 206 447 12 Ax "NoMember" 56 [("__init__","NoMember.__init__",["self","k"],58,2,[])] ["k"]::
iE "BOUND" 475 (.int 1000000000 474)::
iF 225 476 15 Lu "is_whole" ["thing"] 63 1::
iF 232 483 16 Lu "is_content" ["thing"] 65 1::
iE "NAMES" 498 (.ref 239)::
iR (λ_=>[oS ["here","there","left","way","sign","met"] 492])::
iF 240 499 19 JW "is_box" ["thing"] 69 1::
iF 247 506 20 JW "is_number" ["thing"] 71 1::
iF 254 513 21 JW "fits" ["box","thing"] 73 2::
iC 261 521 22 JW "Boxes" 81 [("__init__","Boxes.__init__",["self","here","there","left","way","sign","met","handed","box","number"],83,7,[(⟨.type "tuple",none,.seq #[.int 0 533,.int 0 534,.int 0 535,.int 1 536,.int 0 537,.int 0 538] 0,#[]⟩,6)]),("holds","Boxes.holds",["self","box"],90,2,[]),("give","Boxes.give",["self","box","number"],95,3,[]),("told","Boxes.told",[],102,1,[]),("copied","Boxes.copied",["self","other"],105,1,[])] ["numbers"]::
iF 309 597 24 D6 "check_box" ["word","box"] 110 2::
iF 316 605 25 D6 "check_number" ["word","number"] 113 2::
iC 323 613 0 D6 "Deed" 116 [] [] [.ref 367,.ref 400,.ref 433,.ref 466,.ref 499,.ref 893,.ref 961,.ref 987,.ref 1013,.ref 1039,.ref 1065,.ref 1091]::
wW 337 633 27 D6 "Set" 118 [("__init__","Set.__init__",["self","box","number"],120,3,[]),("step","Set.step",["self","boxes","store"],126,3,[]),("words","Set.words",["self"],130,1,[])] ["box","number"]::[]
abbrev jY:List It:=
wW 370 676 28 D6 "Add" 132 [("__init__","Add.__init__",["self","box","number"],134,3,[]),("step","Add.step",["self","boxes","store"],140,3,[]),("words","Add.words",["self"],144,1,[])] ["box","number"]::
wW 403 719 29 D6 "Take" 146 [("__init__","Take.__init__",["self","box","other"],148,3,[]),("step","Take.step",["self","boxes","store"],154,3,[]),("words","Take.words",["self"],158,1,[])] ["box","other"]::
wW 436 762 30 D6 "Read" 160 [("__init__","Read.__init__",["self","box"],162,2,[]),("step","Read.step",["self","boxes","store"],166,3,[]),("words","Read.words",["self"],170,1,[])] ["box"]::
wW 469 803 31 D6 "Write" 172 [("__init__","Write.__init__",["self","box"],174,2,[]),("step","Write.step",["self","boxes","store","number"],178,3,[]),("words","Write.words",["self"],185,1,[])] ["box"]::
iE "MOST_ROWS" 848 (.int 24 847)::
iF 502 849 34 JY "check_rows" ["rows","at","thing"] 189 1::
iF 509 858 35 JY "check_place" ["at","many"] 195 2::
iF 516 866 36 JY "tried" ["deed","boxes","store","stop","refusal"] 198 3::
iC 523 877 37 JY "Machine" 205 [("__init__","Machine.__init__",["self","rows","store","boxes","at"],207,5,[(⟨.type "tuple",none,.seq #[.int 0 889] 0,#[]⟩,1)]),("ended","Machine.ended",["self"],215,1,[]),("step_on","Machine.step_on",["self","store","by"],218,2,[]),("step","Machine.step",["self"],227,1,[]),("run","Machine.run",["self","most"],230,2,[]),("why","Machine.why",["self"],233,1,[]),("state","Machine.state",["self"],236,1,[]),("leaves","Machine.leaves",["self"],239,1,[]),("leave","Machine.leave",["self","low","behind","word"],242,4,[]),("rows","Machine.rows",[],245,1,[]),("copied","Machine.copied",["self"],248,1,[])] ["at","boxes","deeds","store"]::
iE "MOST_CELLS" 991 (.int 60 990)::
iE "LEAVES" 995 (.ref 613)::
iR (λ_=>[oS ["open","look","shut"] 992])::
iF 614 996 41 JU "check_cells" ["cells","at","thing"] 253 1::
iF 621 1005 42 JU "is_leave" ["word"] 259 1::
iF 628 1012 43 JU "is_within" ["low","behind","size"] 261 3::
iC 635 1021 44 JU "Store" 263 [("__init__","Store.__init__",["self","cells"],265,2,[]),("size","Store.size",["self"],270,1,[]),("told","Store.told",["self"],273,1,[]),("leaves","Store.leaves",["self"],276,1,[]),("leave","Store.leave",["self","low","behind","word","cell"],279,4,[]),("may","Store.may",["self","deed","cell"],285,3,[]),("look","Store.look",["self","cell"],292,2,[]),("put","Store.put",["self","cell","content"],297,3,[]),("restore","Store.restore",["self","cell","content"],302,3,[]),("copied","Store.copied",["self","other"],305,1,[])] ["contents","permits"]::[]
abbrev ES:List It:=
iF 719 1128 46 LG "shared" ["one","other","low","behind"] 311 2::
iF 726 1138 47 LG "apart" ["stretches","place","stretch","earlier"] 317 1::
iE "MOST_MEMBERS" 1151 (.int 4 1150)::
iE "THINGS_OF_A_MEMBER" 1153 (.int 4 1152)::
iF 733 1154 51 JM "is_member" ["thing"] 326 1::
iF 740 1161 52 JM "are_members" [] 328 1::
iF 745 1167 53 JM "is_part" ["part","size"] 332 2::
iF 752 1175 54 JM "parts_of" ["members","size","parts","at","member","part"] 334 2::
iF 759 1189 56 Ll "machine_on" ["cells","part","member"] 345 3::
iC 766 1198 57 Ll "Crew" 347 [("__init__","Crew.__init__",[],349,3,[]),("check_member","Crew.check_member",["self","k"],354,2,[]),("machine_of","Crew.machine_of",["self","k"],358,2,[]),("step","Crew.step",["self","k"],362,2,[]),("run","Crew.run",["self","k","most"],365,3,[]),("why","Crew.why",["self","k"],368,2,[]),("state","Crew.state",["self","k"],371,2,[]),("go","Crew.go",["self","order"],374,2,[]),("floor","Crew.floor",["self","cells","part","machine"],377,1,[]),("leave","Crew.leave",["self","low","behind","word","part","machine","both"],383,4,[])] ["ground","machines","parts"]::
iE "MOST_HOPPED" 1310 (.int 24 1309)::
iF 848 1311 60 Fy "is_many" ["thing"] 391 1::
iF 855 1318 61 Fy "is_on" ["thing"] 393 1::
wW 862 1325 62 Fy "Hop" 395 [("__init__","Hop.__init__",["self","many","on"],397,3,[(⟨.type "tuple",none,.seq #[.none] 0,#[]⟩,0)]),("step","Hop.step",["self","boxes","store"],403,3,[]),("words","Hop.words",["self","told"],408,1,[])] ["many","on"]::
iF 896 1371 64 jQ "more" ["boxes","box","by"] 414 3::
iF 903 1380 65 jQ "go_by_way" ["boxes","box"] 416 2::
iF 910 1388 66 jQ "less_left" ["boxes","by"] 418 2::
iF 917 1396 67 jQ "ask_put" ["store","cell"] 421 2::
iF 924 1404 68 jQ "haul" ["store","source","target","content"] 424 3::
iF 931 1414 69 jQ "exchange" ["store","one","other","first","second"] 427 3::
wW 938 1425 70 jQ "Copy" 434 [("step","Copy.step",["self","boxes","store"],436,3,[]),("words","Copy.words",["self"],444,1,[])] []::
wW 964 1457 71 jQ "Fill" 446 [("step","Fill.step",["self","boxes","store"],448,3,[]),("words","Fill.words",["self"],455,1,[])] []::
wW 990 1489 72 jQ "Seek" 457 [("step","Seek.step",["self","boxes","store"],459,3,[]),("words","Seek.words",["self"],470,1,[])] []::[]
abbrev Jy:List It:=
wW 1016 1521 73 jQ "Match" 472 [("step","Match.step",["self","boxes","store","content"],474,3,[]),("words","Match.words",["self"],487,1,[])] []::
wW 1042 1554 74 jQ "Shift" 489 [("step","Shift.step",["self","boxes","store","left","here","there"],491,3,[]),("words","Shift.words",["self"],505,1,[])] []::
wW 1068 1589 75 jQ "Turn" 507 [("step","Turn.step",["self","boxes","store","left","here"],509,3,[]),("words","Turn.words",["self"],520,1,[])] []::
iF 1094 1625 77 cn "_law_hand" ["_law_script","_law_cells","_law_fold","_law_cell"] 523 1::
iF 1101 1635 78 cn "_law_draw" ["_law_hand_here","_law_many","_law_rest","_law_cell","_law_one","_law_two"] 529 2::
iF 1108 1647 79 cn "_law_whole" ["_law_thing"] 545 1::
iF 1115 1654 80 cn "_law_odd" ["_law_hand_here","_law_low","_law_high","_law_way"] 547 3::
iF 1122 1664 81 cn "_law_deed" ["_law_spec","_law_word"] 558 1::
iF 1129 1672 82 cn "_law_long" ["_law_word"] 573 1::
iF 1136 1679 83 cn "_law_let" ["_law_leaves","_law_deed_here","_law_cell"] 585 3::
iF 1143 1688 84 cn "_law_reach" ["_law_spec","_law_boxes","_law_here","_law_there","_law_left","_law_word","_law_far"] 589 2::
iF 1150 1701 85 cn "_law_fits" ["_law_box","_law_number"] 612 2::
iF 1157 1709 86 cn "_law_barred" ["_law_spec","_law_boxes","_law_leaves","_law_looks","_law_puts_here","_law_cell"] 620 3::
iF 1164 1721 87 cn "_law_step" ["_law_spec","_law_boxes","_law_cells","_law_leaves","_law_barred_here","_law_word","_law_number"] 631 4::
iF 1171 1734 88 cn "_law_moved" ["_law_word","_law_boxes","_law_cells","_law_here","_law_there","_law_left","_law_way","_law_size","_law_content"] 654 3::
iF 1178 1749 89 cn "_law_looked" ["_law_word","_law_boxes","_law_cells","_law_here","_law_there","_law_left","_law_way","_law_other"] 683 3::
iF 1185 1763 90 cn "_law_floor" [] 701 2::
iF 1190 1769 91 cn "_law_six" [] 703 2::
iF 1195 1775 92 cn "_law_parts" ["_law_hand_here","_law_size","_law_parts_here","_law_low","_law_k","_law_behind"] 710 2::
iF 1202 1787 93 cn "_law_crew" [] 719 2::
iF 1207 1793 94 cn "_law_worlds" ["_law_cells","_law_members","_law_worlds_here","_law_low","_law_behind","_law_specs","_law_six_here"] 725 2::
iF 1214 1806 95 cn "_law_goes" ["_law_specs","_law_world","_law_told"] 730 2::
iF 1221 1815 96 cn "_law_given" ["_law_crew_here","_law_members","_law_worlds_here","_law_low","_law_behind","_law_word","_law_k","_law_cell"] 738 6::
iF 1228 1829 97 cn "_law_puts" ["_law_hand_here","_law_size","_law_specs","_law_k"] 743 2::
iF 1235 1839 98 cn "_law_refused" ["_law_crew_here","_law_low","_law_behind","_law_word","e"] 749 4::
iF 1242 1850 99 cn "_law_no_leave" ["_law_hand_here","_law_size","_law_low","_law_wrong"] 757 2::
iF 1249 1860 100 cn "_law_due" ["_law_cells","_law_members","_law_worlds_here","_law_floor_here","_law_k","_law_place"] 762 3::[]
abbrev Mi (P:Params):List Obj:=oW [(12,⟨.none,none,.fields (JV Ln),#[]⟩),(332,⟨.type "type",none,.cls ⟨"Deed",[.type "object"],[.ref 332,.type "object"],331,"Deed",true,[],[.ref 367],false,none,false⟩,#[none,none,some (.str "Deed" 613),some (.str "Deed" 621),some (.builtin "object.__new__"),some (.bool true)]⟩)] (Hz P "haulbell.deeds" 595 33 xg)
abbrev L9 (P:Params):List Obj:=oW [(12,⟨.none,none,.fields (JV LP),#[]⟩),(332,⟨.type "type",none,.cls ⟨"Deed",[.type "object"],[.ref 332,.type "object"],331,"Deed",true,[],[.ref 367,.ref 400,.ref 433,.ref 466,.ref 499],false,none,false⟩,#[none,none,some (.str "Deed" 613),some (.str "Deed" 621),some (.builtin "object.__new__"),some (.bool true)]⟩)] (Hz P "haulbell.store" 988 48 (xg++jY))
abbrev Mz (P:Params):List Obj:=oW [(12,⟨.none,none,.fields (JV Lv),#[]⟩),(332,⟨.type "type",none,.cls ⟨"Deed",[.type "object"],[.ref 332,.type "object"],331,"Deed",true,[],[.ref 367,.ref 400,.ref 433,.ref 466,.ref 499,.ref 893,.ref 961,.ref 987,.ref 1013],false,none,false⟩,#[none,none,some (.str "Deed" 613),some (.str "Deed" 621),some (.builtin "object.__new__"),some (.bool true)]⟩)] (Hz P "haulbell.longs" 1369 71 (xg++jY++ES))
abbrev LZ (P:Params):List Obj:=oW [(12,⟨.none,none,.fields (JV Mr),#[]⟩)] (Hz P "law_haulbell_k74_floor_between" 1623 98 (xg++jY++ES++Jy))
abbrev S0 (P:Params)(os:OsState):SharedT:=⟨EB 0 .nil (LU P),15,(boot_heap P).life,Array.mk [],boot_drawn,187,os⟩
abbrev q0:Pos:=⟨0,0,0,0⟩
abbrev S1 (P:Params)(os:OsState):SharedT:=⟨EB 0 .nil (Mi P),370,(boot_heap P).life,Array.mk [],boot_drawn,676,os⟩
abbrev q1:Pos:=⟨118,0,131,50⟩
abbrev S2 (P:Params)(os:OsState):SharedT:=⟨EB 0 .nil (L9 P),719,(boot_heap P).life,Array.mk [],boot_drawn,1126,os⟩
abbrev q2:Pos:=⟨263,0,309,20⟩
abbrev S3 (P:Params)(os:OsState):SharedT:=⟨EB 0 .nil (Mz P),1016,(boot_heap P).life,Array.mk [],boot_drawn,1521,os⟩
abbrev q3:Pos:=⟨457,0,471,23⟩
abbrev S4 (P:Params)(os:OsState):SharedT:=⟨EB 0 .nil (LZ P),1256,(boot_heap P).life,Array.mk [],boot_drawn,1872,os⟩
abbrev q4:Pos:=⟨762,0,767,26⟩
abbrev Me (P:Params):List Obj:=Hz P "law_haulbell_k74_floor_between" 1623 99 (xg++jY++ES++Jy++[iF 1256 1872 101 cn "law" (sK 13 "law") 768 1])
abbrev K0 (P:Params):PySem.W.Frag:=J0.map λa=>(a,(Me P).getD a oN)
abbrev qG (p:Program):Program:=PySem.W.view p [101]
abbrev zm:List Str:="_wall"::"HaulError"::"NoStore"::"NoLeave"::"Stop"::"NoFit"::"NoBox"::"NoDeed"::"NoRows"::"NoPlace"::"NoPart"::"NoMember"::"BOUND"::"is_whole"::"is_content"::"NAMES"::"is_box"::"is_number"::"fits"::"Boxes"::"check_box"::"check_number"::"Deed"::"Set"::"Add"::"Take"::"Read"::"Write"::"MOST_ROWS"::"check_rows"::"check_place"::"tried"::"Machine"::"MOST_CELLS"::"LEAVES"::"check_cells"::"is_leave"::"is_within"::"Store"::"shared"::"apart"::"MOST_MEMBERS"::"THINGS_OF_A_MEMBER"::"is_member"::"are_members"::"is_part"::"parts_of"::"machine_on"::"Crew"::"MOST_HOPPED"::"is_many"::"is_on"::"Hop"::"more"::"go_by_way"::"less_left"::"ask_put"::"haul"::"exchange"::"Copy"::"Fill"::"Seek"::"Match"::"Shift"::"Turn"::"_law_hand"::"_law_draw"::"_law_whole"::"_law_odd"::"_law_deed"::"_law_long"::"_law_let"::"_law_reach"::"_law_fits"::"_law_barred"::"_law_step"::"_law_moved"::"_law_looked"::"_law_floor"::"_law_six"::"_law_parts"::"_law_crew"::"_law_worlds"::"_law_goes"::"_law_given"::"_law_puts"::"_law_refused"::"_law_no_leave"::"_law_due"::[]
end My
open PySem PySem.W in
set_option maxHeartbeats 0 in
def My.EM (w:World)(os:OsState):My.runK treeTable My.pr w 11 (some (.ref 6)) 12 (My.JF w.params os) (topStub My.pr)=some (My.S0 w.params os,⟨denote treeTable (.body (ac My.pr) (My.i8 My.pr)),.body (ac My.pr) (My.i8 My.pr),default,[My.Lp]⟩):=by
  delta My.pr;rewrite[Fast.te2368527892694137696,Fast.te14364793385576792824]
  kernel_rfl
open PySem PySem.W in
set_option maxHeartbeats 0 in
def My.Ga (w:World)(os:OsState)(B:List Stmt):My.runK treeTable My.pr w 11 (some (.ref 6)) 3803 (My.S0 w.params os) (My.lK My.pr (((ac My.pr).drop 0).take 28++B) My.q0)=some (My.S1 w.params os,My.lK My.pr B My.q1):=by
  delta My.pr;rewrite[Fast.te2368527892694137696,Fast.te14364793385576792824]
  kernel_rfl
open PySem PySem.W in
set_option maxHeartbeats 0 in
def My.GR (w:World)(os:OsState)(B:List Stmt):My.runK treeTable My.pr w 11 (some (.ref 6)) 2532 (My.S1 w.params os) (My.lK My.pr (((ac My.pr).drop 28).take 17++B) My.q1)=some (My.S2 w.params os,My.lK My.pr B My.q2):=by
  delta My.pr;rewrite[Fast.te2368527892694137696,Fast.te14364793385576792824]
  kernel_rfl
open PySem PySem.W in
set_option maxHeartbeats 0 in
def My.FK (w:World)(os:OsState)(B:List Stmt):My.runK treeTable My.pr w 11 (some (.ref 6)) 2187 (My.S2 w.params os) (My.lK My.pr (((ac My.pr).drop 45).take 28++B) My.q2)=some (My.S3 w.params os,My.lK My.pr B My.q3):=by
  delta My.pr;rewrite[Fast.te2368527892694137696,Fast.te14364793385576792824]
  kernel_rfl
open PySem PySem.W in
set_option maxHeartbeats 0 in
def My.FC (w:World)(os:OsState)(B:List Stmt):My.runK treeTable My.pr w 11 (some (.ref 6)) 1612 (My.S3 w.params os) (My.lK My.pr (((ac My.pr).drop 73).take 28++B) My.q3)=some (My.S4 w.params os,My.lK My.pr B My.q4):=by
  delta My.pr;rewrite[Fast.te2368527892694137696,Fast.te14364793385576792824]
  kernel_rfl
open PySem PySem.W in
set_option maxHeartbeats 0 in
def My.IG:LeftO My.pr (My.qG My.pr) My.zm (λs=>xlAt (My.qG My.pr) [] s&&recOk PySem.Challenge.rw_haulbell_k74_floor_between.row.records s) (λs=>My.J0.map s.heap.get?) (λw=>(My.K0 w.params).map λp=>some p.2) 20476:=by
  refine My.vY (by kernel_rfl) rfl (λ_=>by kernel_rfl) (λ_=>by kernel_rfl) (λ_=>by kernel_rfl) λw os=>?_
  have d:denote treeTable (.body (ac My.pr) (My.i8 My.pr))=My.BS My.pr (ac My.pr):=My.xX (by kernel_rfl);have e:My.l7 treeTable My.pr w 11 (some (.ref 6)) (12+(3803+(2532+(2187+(1612+(10330)))))) (My.JF w.params os) (topStub My.pr)=My.l7 treeTable My.pr w 11 (some (.ref 6)) 10330 (My.S4 w.params os) (My.lK My.pr ((ac My.pr).drop 101) My.q4):=by
    rw[My.cD (My.EM w os)];dsimp only;rw[d];show My.l7 treeTable My.pr w 11 (some (.ref 6)) _ (My.S0 w.params os) (My.lK My.pr ((ac My.pr).drop 0) My.q0)=_;rw[show(ac My.pr).drop 0=((ac My.pr).drop 0).take 28++(ac My.pr).drop 28 from by
      rw[show(ac My.pr).drop 28=((ac My.pr).drop 0).drop 28 by rw[List.drop_drop],List.take_append_drop],My.cD (My.Ga w os _)]
    rw[show(ac My.pr).drop 28=((ac My.pr).drop 28).take 17++(ac My.pr).drop 45 from by
      rw[show(ac My.pr).drop 45=((ac My.pr).drop 28).drop 17 by rw[List.drop_drop],List.take_append_drop],My.cD (My.GR w os _)]
    rw[show(ac My.pr).drop 45=((ac My.pr).drop 45).take 28++(ac My.pr).drop 73 from by
      rw[show(ac My.pr).drop 73=((ac My.pr).drop 45).drop 28 by rw[List.drop_drop],List.take_append_drop],My.cD (My.FK w os _)]
    rw[show(ac My.pr).drop 73=((ac My.pr).drop 73).take 28++(ac My.pr).drop 101 from by
      rw[show(ac My.pr).drop 101=((ac My.pr).drop 73).drop 28 by rw[List.drop_drop],List.take_append_drop],My.cD (My.FC w os _)]
  rw[show(20476:Nat)=12+(3803+(2532+(2187+(1612+(10330))))) from rfl,e]
  delta My.pr;rewrite[Fast.te4187177175401517315,Fast.te5923862056798008813,Fast.te2368527892694137696,Fast.te14364793385576792824]
  kernel_rfl
set_option Elab.async false
open List(mem_range filterMap_cons mem_cons_self mem_cons_of_mem mem_cons mem_append mem_append_left getElem?_set_self getElem?_set_ne mem_append_right size_toArray any_eq_false length_cons map_cons length_map append_nil nodup_cons of_mem_zip length_take getElem?_map take_sublist mem_of_getElem? length_append length_drop length_set all_cons any_cons replicate_succ flatten_cons append_assoc foldl_cons length_singleton nil_append find?_cons length_nil forIn_cons forIn_nil getElem?_eq_getElem getElem_mem drop_zero take_length lookup_cons take_of_length_le not_mem_nil length_zip set_comm all_eq_true length_eq_zero_iff zip_cons_cons zip_append take_append_drop isEmpty_iff mem_singleton take_succ map_replicate getElem?_of_mem getElem?_take map_append map_drop map_take)
@[reducible]def MB:Type:=Unit->PySem.Shared->Prop
@[reducible]def MC:Type:=PySem.Value->PySem.Shared->Prop
@[reducible]def MD:Type:=List (PySem.Addr×PySem.Obj)
@[reducible]def ME:Type:=PySem.Str->Option PySem.Value
namespace L2
open PySem PySem.Spec PyProof.Rows
@[reducible]def Key:=Sum Int Str
abbrev mZ:Key->Value->Bool
 | .inl k,v=>Value.isInt k v
 | .inr x,v=>Value.isStrOf x v
abbrev Kt (w:World):Key->Int
 | .inl k=>hashInt k
 | .inr x=>hashStr w x
def aN:∀ {k:Key}{v:Value},mZ k v=true->(∃ i t,k=Sum.inl i/\v=Value.int i t)\/(∃ x t,k=Sum.inr x/\v=Value.str x t)
 | .inl i,v,h=>by
  obtain⟨t,e⟩:=Value.isInt_shape (k:=i) (v:=v) h;exact .inl ⟨i,t,rfl,e⟩
 | .inr x,v,h=>by
  obtain⟨t,e⟩:=Value.isStrOf_shape (x:=x) (v:=v) h;exact .inr ⟨x,t,rfl,e⟩
def wa (i:Int)(t:Tok):mZ (.inl i) (.int i t)=true:=by simp[mZ,Value.isInt]
def wz (x:Str)(t:Tok):mZ (.inr x) (.str x t)=true:=by simp[mZ,Value.isStrOf]
def Gg (a b:Int):decide ((Sum.inl a:Key)=Sum.inl b)=(a ==b):=by
 by_cases e:a=b
 .subst e;simp
 .have h:¬ (Sum.inl a:Key)=Sum.inl b:=λq=>e (Sum.inl.inj q)
  rw[decide_eq_false h];exact(beq_eq_false_iff_ne.mpr e).symm
def Fd (a b:Str):decide ((Sum.inr a:Key)=Sum.inr b)=decide (a=b):=by
 by_cases e:a=b
 .subst e;simp
 .have h:¬ (Sum.inr a:Key)=Sum.inr b:=λq=>e (Sum.inr.inj q)
  rw[decide_eq_false h,decide_eq_false e]
def Ft (a:Int)(b:Str):decide ((Sum.inl a:Key)=Sum.inr b)=false:=decide_eq_false (λq=>nomatch q)
def FT (a:Str)(b:Int):decide ((Sum.inr a:Key)=Sum.inl b)=false:=decide_eq_false (λq=>nomatch q)
abbrev aL (prog:Program)(w:World):PySem.KeyKind prog w Key where
 is:=mZ
 hash:=Kt w
 inj:=λv a b ha hb=>by
  rcases aN ha with⟨i,t,rfl,rfl⟩|⟨x,t,rfl,rfl⟩
  .rcases aN hb with⟨j,u,rfl,e⟩|⟨y,u,rfl,e⟩
   .injection e with e1 _;rw[e1]
   .exact nomatch e
  .rcases aN hb with⟨j,u,rfl,e⟩|⟨y,u,rfl,e⟩
   .exact nomatch e
   .injection e with e1 _;rw[e1]
 byValue:=λk v h=>by
  rcases aN h with⟨i,t,rfl,rfl⟩|⟨x,t,rfl,rfl⟩<;>rfl
 pyHash:=λhv h=>by
  rcases aN hv with⟨i,t,rfl,rfl⟩|⟨x,t,rfl,rfl⟩
  .exact wpAny_pyHash_int h
  .exact wpAny_pyHash_str h
 eqBool:=λhu hv h=>by
  rcases aN hu with⟨i,t,rfl,rfl⟩|⟨x,t,rfl,rfl⟩
  .rcases aN hv with⟨j,u,rfl,rfl⟩|⟨y,u,rfl,rfl⟩
   .rw[Gg]at h;exact wpAny_eqBool_int h
   .rw[Ft]at h;exact SeqAt.EqAt.int_str i t y u _ _ _ _ h
  .rcases aN hv with⟨j,u,rfl,rfl⟩|⟨y,u,rfl,rfl⟩
   .rw[FT]at h;exact SeqAt.EqAt.str_int x t j u _ _ _ _ h
   .rw[Fd]at h;exact wpAny_eqBool_str h
 «strs»:=λk x t v h=>by
  rcases aN h with⟨i,u,rfl,e⟩|⟨y,u,rfl,e⟩
  .exact nomatch e
  .injection e with e1 _
   subst e1;cases v<;>rfl
def ql (prog:Program)(w:World)(i:Int)(t:Tok):(aL prog w).is (.inl i) (.int i t)=true:=wa i t
def qu (prog:Program)(w:World)(x:Str)(t:Tok):(aL prog w).is (.inr x) (.str x t)=true:=wz x t
inductive V where
 |non|bl (b:Bool)|int (i:Int)|str (x:Str)|byt (b:Array UInt8)|flt (b:UInt64)|ref (a:Addr)|ty (n:String)
 deriving DecidableEq
abbrev RelV:V->Value->Prop
 | .non,u=>u=Value.none
 | .bl b,u=>u=Value.bool b
 | .int i,u=>∃ t,u=Value.int i t
 | .str x,u=>∃ t,u=Value.str x t
 | .byt b,u=>∃ t,u=Value.bytes b t
 | .flt b,u=>∃ t,u=Value.float b t
 | .ref a,u=>u=Value.ref a
 | .ty n,u=>u=Value.type n
@[reducible]def Vals:List V->List Value->Prop:=Paired RelV
variable {xs:List V}{us:List Value}
def Vals.length (r:Vals xs us):xs.length=us.length:=Paired.length r
def Vals.get:∀ {xs:List V}{us:List Value}{i:Nat}{x:V},Vals xs us->xs[i]? =some x->∃ u,us[i]? =some u/\RelV x u
 |_,_,_,_,.nil,e=>by simp at e
 |_,_,0,_,.cons r _,e=>by simp at e;subst e;exact⟨_,rfl,r⟩
 |_,_,i+1,x,.cons _ t,e=>by
  obtain⟨u,h1,h2⟩:=Vals.get (i:=i) (x:=x) t (by simpa using e);exact⟨u,by simpa using h1,h2⟩
variable {u:Value}
def Vals.set {x:V}(r:RelV x u):∀ {xs:List V}{us:List Value}(i:Nat),Vals xs us->Vals (xs.set i x) (us.set i u)
 |_,_,_,.nil=>.nil
 |_,_,0,.cons _ t=>.cons r t
 |_,_,i+1,.cons q t=>.cons q (Vals.set r i t)
def Vals.append:∀ {xs ys:List V}{us ws:List Value},Vals xs us->Vals ys ws->Vals (xs++ys) (us++ws)
 |_,_,_,_,.nil,s=>s
 |_,_,_,_,.cons r t,s=>.cons r (Vals.append t s)
def Vals.take:∀ {xs:List V}{us:List Value}(n:Nat),Vals xs us->Vals (xs.take n) (us.take n)
 |_,_,0,_=>.nil
 |_,_,_+1,.nil=>.nil
 |_,_,n+1,.cons r t=>.cons r (Vals.take n t)
def Vals.drop:∀ {xs:List V}{us:List Value}(n:Nat),Vals xs us->Vals (xs.drop n) (us.drop n)
 |_,_,0,r=>r
 |_,_,_+1,.nil=>.nil
 |_,_,n+1,.cons _ t=>Vals.drop n t
abbrev dr:Option V->Option Value->Prop
 |some v,some u=>RelV v u
 |none,none=>True
 |_,_=>False
abbrev KV {κ:Type}:List (κ×V)->List (κ×Value)->Prop:=Paired λ(p:κ×V) (q:κ×Value)=>p.1=q.1/\RelV p.2 q.2
abbrev kV:Key->V
 | .inl i=>.int i
 | .inr x=>.str x
inductive HO where
  |lst (xs:List V)
  |tup (xs:List V)
  |dK (kvs:List (Key×V))|dT (kvs:List (List Key×V))
  |set (S:Int->Bool) (n:Nat)
  |ins (C dx:Addr) (fs:List (Str×V))
  |own (x:Addr)
  |exc (C:Addr) (dx:Option Addr) (fs:List (Str×V)) (fr:Bool)
  |xd (fs:List (Str×V))
  |met (f x:Addr)
  |rng (lo hi:Int)
  |frz (o:Obj) (u:HO)
  |tbl (ps:Array Value)
  |ext (φ:Heap->Prop)
@[reducible]def Hp:=Addr->Option HO
abbrev upd (H:Hp)(a:Addr)(o:HO):Hp:=λb=>if b=a then some o else H b
variable {H:Hp}{a:Addr}{o:HO}
def az:upd H a o a=some o:=by unfold upd;rw[if_pos rfl]
variable {b:Addr}
def ai (h:b≠a):upd H a o b=H b:=by unfold upd;rw[if_neg h]
def Bl {u:HO}:upd (upd H a o) a u=upd H a u:=by
 funext b;unfold upd;split<;>rfl
def Jk {u:HO}(h:H a=some o)(h':H b=some u)(d:o≠u):a≠b:=by
 intro e;subst e;rw[h]at h';exact d (Option.some.inj h')
def aQ (h:H a=some o)(h':H b=none):a≠b:=by
 intro e;subst e;rw[h]at h';cases h'
section
variable (P:Program) (w:World)
abbrev aS (H:Hp)(h:Heap)(a:Addr):HO->Prop
 | .lst xs=>xs.length<=bn/\∃ (its:List Value) (n:Nat),Vals xs its/\h.get? a=some { cls:=.type "list",data:=.seq its.toArray n }
 | .tup xs=>xs.length<=bn/\∃ its:List Value,Vals xs its/\IsTup h a its.toArray
 | .dK kvs=>kvs.length<=bn/\(a ==sysModules)=false/\∃ vs,KV kvs vs/\h.DictOf (aL P w) a vs
 | .dT kvs=>kvs.length<=bn/\(a ==sysModules)=false/\∃ xs:List (List Key×Addr×Value),
   Paired (λ(p:List Key×V) (q:List Key×Addr×Value)=>p.1=q.1/\H q.2.1=some (.tup (p.1.map kV))/\RelV p.2 q.2.2) kvs xs/\
   ∃ o es ep,h.get? a=some o/\o.ExactDict/\o.data=.dict es ep/\es.toList=xs.map (entryOfKey (tupleKind (aL P w)))/\(xs.map (·.1)).Nodup
 | .set S n=>h.SetOf (intKind P w) a S n
 | .ins C dx fs=>H dx=some (.own a)/\fs.length<=1000/\dx≠a/\h.get? a=some (W.instObj C dx)/\
   ∃ mA,h.Ns1 dx mA/\(∀ f,dr (fs.lookup f) (mA f))/\PySem.Within mA (fs.map (·.1))
 | .exc C dx fs fr=>(∃ vs,h.get? a=some { cls:=.ref C,dict:=dx,data:=.fields vs }/\vs.size=6/\(fr=true->vs[1]? =some Value.none))/\
   ((dx=none/\fs=[])\/∃ d,dx=some d/\H d=some (.own a)/\fs.length<=1000/\d≠a/\∃ mA,h.Ns1 d mA/\(∀ f,dr (fs.lookup f) (mA f))/\PySem.Within mA (fs.map (·.1)))
 | .own _=>∃ o,h.get? a=some o
 | .xd fs=>∃ mA,h.Ns1 a mA/\∀ f,dr (fs.lookup f) (mA f)
 | .rng lo hi=>∃ t u v,h.get? a=some { cls:=.type "range",data:=.fields #[.int lo t,.int hi u,.int 1 v] }
 | .frz o u=>h.get? a=some o/\aS H h a u
 | .tbl ps=>h.get? a=some { cls:=.none,data:=.fields ps }
 | .met f x=>h.get? a=some (W.methodObj (.ref f) (.ref x))
 | .ext φ=>φ h/\(∃ o,h.get? a=some o)/\∀ h1 h2:Heap,φ h1->(∀ o,h1.get? a=some o->h2.get? a=some o)->φ h2
abbrev gb (H:Hp)(h:Heap):Prop:=∀ a o,H a=some o->aS P w H h a o
end
section
variable {P:Program}{w:World}{H H':Hp}{h h':Heap}{a:Addr}{o:HO}
def aS.lt (x:aS P w H h a o):a<h.objs.size:=by
 cases o with
 |lst xs=>obtain⟨_,_,_,_,e⟩:=x;exact ut e
 |tup xs=>obtain⟨_,_,_,p⟩:=x;exact p.lt
 |dK kvs=>obtain⟨_,_,_,_,o,_,_,e,_⟩:=x;exact ut e
 |dT kvs=>obtain⟨_,_,_,_,o,_,_,e,_⟩:=x;exact ut e
 |set S n=>obtain⟨o,_,_,_,e,_⟩:=x;exact ut e
 |ins C dx fs=>obtain⟨_,_,_,e,_⟩:=x;exact ut e
 |exc C dx fs fr=>obtain⟨⟨_,e,_⟩,_⟩:=x;exact ut e
 |own y=>obtain⟨_,e⟩:=x;exact ut e
 |xd fs=>obtain⟨_,⟨_,_,_,e,_⟩,_⟩:=x;exact ut e
 |rng lo hi=>obtain⟨_,_,_,e⟩:=x;exact ut e
 |frz ob u=>obtain⟨e,_⟩:=x;exact ut e
 |tbl ps=>exact ut (show h.get? a=some _ from x)
 |met f y=>exact ut (show h.get? a=some _ from x)
 |ext φ=>obtain⟨_,⟨_,e⟩,_⟩:=x;exact ut e
def Paired.FF {α β:Type}{F G:α->β->Prop}:∀ {l₁:List α}{l₂:List β},Paired F l₁ l₂->(∀ a b,F a b->G a b)->Paired G l₁ l₂
 |_,_,.nil,_=>.nil
 |_,_,.cons r t,f=>.cons (f _ _ r) (Paired.FF t f)
def aS.jR (x:aS P w H h a o)(k:∀ b u,(b=a\/H b=some (.own a))->h.get? b=some u->h'.get? b=some u)
  (ho:∀ b,H b=some (.own a)->H' b=some (.own a)) (ht:∀ b xs,H b=some (.tup xs)->H' b=some (.tup xs)):aS P w H' h' a o:=by
 induction o with
 |lst xs=>obtain⟨z,its,n,r,e⟩:=x;exact⟨z,its,n,r,k _ _ (.inl rfl) e⟩
 |tup xs=>obtain⟨z,its,r,ob,e,c⟩:=x;exact⟨z,its,r,ob,k _ _ (.inl rfl) e,c⟩
 |dK kvs=>obtain⟨z,y,vs,r,ob,es,ep,e,c⟩:=x;exact⟨z,y,vs,r,ob,es,ep,k _ _ (.inl rfl) e,c⟩
 |dT kvs=>
  obtain⟨z,y,xs,r,ob,es,ep,e,c⟩:=x;exact⟨z,y,xs,Paired.FF r λp q z=>⟨z.1,ht _ _ z.2.1,z.2.2⟩,ob,es,ep,k _ _ (.inl rfl) e,c⟩
 |set S n=>obtain⟨ob,es,ep,t,e,c⟩:=x;exact⟨ob,es,ep,t,k _ _ (.inl rfl) e,c⟩
 |ins C dx fs=>
  obtain⟨d,z,ne,e,mA,⟨od,es,ep,e2,c⟩,r⟩:=x;exact⟨ho _ d,z,ne,k _ _ (.inl rfl) e,mA,⟨od,es,ep,k _ _ (.inr d) e2,c⟩,r⟩
 |exc C dx fs fr=>
  obtain⟨⟨vs,e,z⟩,q⟩:=x;refine⟨⟨vs,k _ _ (.inl rfl) e,z⟩,?_⟩;rcases q with q|⟨d,ed,d1,z1,ne,mA,⟨od,es,ep,e2,c⟩,r⟩
  .exact .inl q
  .exact .inr ⟨d,ed,ho _ d1,z1,ne,mA,⟨od,es,ep,k _ _ (.inr d1) e2,c⟩,r⟩
 |own y=>obtain⟨ob,e⟩:=x;exact⟨ob,k _ _ (.inl rfl) e⟩
 |xd fs=>obtain⟨mA,⟨od,es,ep,e,c⟩,r⟩:=x;exact⟨mA,⟨od,es,ep,k _ _ (.inl rfl) e,c⟩,r⟩
 |rng lo hi=>obtain⟨t,u,v,e⟩:=x;exact⟨t,u,v,k _ _ (.inl rfl) e⟩
 |frz ob u ih=>obtain⟨e,q⟩:=x;exact⟨k _ _ (.inl rfl) e,ih q⟩
 |tbl ps=>
  have e:h.get? a=some { cls:=.none,data:=.fields ps }:=x;show h'.get? a=some { cls:=.none,data:=.fields ps };exact k a _ (.inl rfl) e
 |met f y=>
  have e:h.get? a=some (W.methodObj (.ref f) (.ref y)):=x;show h'.get? a=some (W.methodObj (.ref f) (.ref y));exact k a _ (.inl rfl) e
 |ext φ=>obtain⟨p,⟨o,e⟩,st⟩:=x;exact⟨st _ _ p λo q=>k _ _ (.inl rfl) q,⟨o,k _ _ (.inl rfl) e⟩,st⟩
def gb.lt (x:gb P w H h)(e:H a=some o):a<h.objs.size:=(x a o e).lt
def gb.fresh (x:gb P w H h)(e:h.objs.size<=a):H a=none:=by
 cases q:H a with
 |none=>rfl
 |some u=>exact absurd (ol (x.lt q) e) (Nat.lt_irrefl _)
def gb.kept (x:gb P w H h)(k:∀ b u,h.get? b=some u->h'.get? b=some u):gb P w H h':=λa o e=>
 (x a o e).jR (λb u _ q=>k b u q) (λ_ q=>q) λ_ _ q=>q
def gb.laid (x:gb P w H h)(k:∀ b u,h.get? b=some u->h'.get? b=some u) (hp:h.objs.size<=a) (new:aS P w (upd H a o) h' a o):gb P w (upd H a o) h':=λb u e=>by
 have hn:=x.fresh hp
 by_cases hb:b=a
 .subst hb;rw[az]at e;cases e;exact new
 .rw[ai hb]at e;exact(x b u e).jR (λc v _ q=>k c v q) (λc q=>by rw[ai (aQ q hn)];exact q) λc xs q=>by rw[ai (aQ q hn)];exact q
end
abbrev Rd (H:Hp)(a:Addr)(u:HO):Prop:=H a=some u\/∃ o,H a=some (.frz o u)
variable {P:Program}{w:World}{h:Heap}
def Rd.ok {u:HO}(r:Rd H a u)(x:gb P w H h):aS P w H h a u:=by
 rcases r with r|⟨o,r⟩
 .exact x a u r
 .obtain⟨_,q⟩:=x a _ r;exact q
abbrev Js:Option HO->Prop
 |some (.lst _)=>True
 |some (.dK _)=>True
 |some (.dT _)=>True
 |some (.set _ _)=>True
 |some (.ins _ _ _)=>True
 |some (.exc _ _ _ _)=>True
 |some (.ext _)=>True
 |_=>False
section
variable {P:Program}{w:World}{H:Hp}{h h':Heap}{x e:Addr}{o':HO}
def gb.write (ok:gb P w H h)(mu:Js (H x))(he:e=x\/H e=some (.own x))(k:∀ b u,b≠e->h.get? b=some u->h'.get? b=some u) (heo:∃ u,h'.get? e=some u)
  (new:aS P w (upd H x o') h' x o'):gb P w (upd H x o') h':=λb u q=>by
 have nown:∀ c y,H c=some (.own y)->c≠x:=λc y r z=>by subst z;rw[r]at mu;exact mu
 have ntup:∀ c xs,H c=some (.tup xs)->c≠x:=λc xs r z=>by subst z;rw[r]at mu;exact mu
 by_cases hb:b=x
 .subst hb;rw[az]at q;cases q;exact new
 .rw[ai hb]at q
  by_cases hbe:b=e
  .have q':H b=some (.own x):=by
    rcases he with z|z
    .exact absurd (hbe.trans z) hb
    .rw[hbe];exact z
   rw[q]at q';cases q';obtain⟨v,hv⟩:=heo;exact⟨v,by rw[hbe];exact hv⟩
  .refine(ok b u q).jR (λc v hc r=>k c v ?_ r) (λc r=>by rw[ai (nown c b r)];exact r) λc xs r=>by rw[ai (ntup c xs r)];exact r
   rcases hc with rfl|hc
   .exact hbe
   .rintro rfl;rcases he with z|z
    .exact nown c b hc z
    .rw[hc]at z;cases z;exact hb rfl
end
structure Un (fs ex:List Addr) (H H':Hp) (h h':Heap):Prop where
 keep:∀ b o,h.get? b=some o->H b=none->b ∉ fs->b ∉ ex->h'.get? b=some o
 slot:∀ b o,h.get? b=some o->H b=none->b ∈ fs->b ∉ ex->∃ sl,h'.get? b=some { o with slots:=sl }
 free:∀ b o,h.get? b=some o->H b=none->b ∉ ex->H' b=none
 there:∀ b o,h.get? b=some o->b ∉ ex->∃ o',h'.get? b=some o'
 tups:∀ b xs,H b=some (.tup xs)->H' b=some (.tup xs)
 frzs:∀ b o u,H b=some (.frz o u)->H' b=some (.frz o u)
 tbls:∀ b ps,H b=some (.tbl ps)->∃ more,H' b=some (.tbl (ps++more))
section
variable {fs fs' ex ex':List Addr}{H H1 H2:Hp}{h h1 h2 h':Heap}{a x e:Addr}{o:HO}
def Un.any (u:Un fs ex H H1 h h1){ob:Obj}(q:h.get? b=some ob)(n:H b=none)(hx:b ∉ ex):∃ sl,h1.get? b=some { ob with slots:=sl }:=by
 by_cases hb:b ∈ fs
 .exact u.slot b ob q n hb hx
 .exact⟨ob.slots,u.keep b ob q n hb hx⟩
def Un.kept (k:∀ b u,h.get? b=some u->h'.get? b=some u):Un fs ex H H h h':=
 ⟨λb ob q _ _ _=>k b ob q,λb ob q _ _ _=>⟨ob.slots,k b ob q⟩,λ_ _ _ n _=>n,λb ob q _=>⟨ob,k b ob q⟩,λ_ _ q=>q,λ_ _ _ q=>q,λ_ ps q=>⟨#[],by rw[q];simp⟩⟩
def Un.refl:Un fs ex H H h h:=Un.kept λ_ _ q=>q
def Un.laid (k:∀ b u,h.get? b=some u->h'.get? b=some u) (hp:h.objs.size<=a) (hn:H a=none):Un fs ex H (upd H a o) h h' where
 keep:=λb u q _ _ _=>k b u q
 slot:=λb u q _ _ _=>⟨u.slots,k b u q⟩
 free:=λb u q n _=>by rw[ai (pi (ol (ut q) hp))];exact n
 there:=λb u q _=>⟨u,k b u q⟩
 tups:=λb xs q=>by rw[ai (aQ q hn)];exact q
 frzs:=λb u xs q=>by rw[ai (aQ q hn)];exact q
 tbls:=λb ps q=>⟨#[],by rw[ai (aQ q hn),q];simp⟩
def Un.write (mu:Js (H x))(he:e=x\/H e=some (.own x))(k:∀ b u,b≠e->h.get? b=some u->h'.get? b=some u) (heo:∃ u,h'.get? e=some u):Un fs ex H (upd H x o) h h':=by
 have hx:∀ b,H b=none->b≠x:=λb n z=>by subst z;rw[n]at mu;exact mu
 have hb:∀ b,H b=none->b≠e:=λb n z=>by
  subst z;rcases he with r|r
  .exact hx b n r
  .rw[n]at r;cases r
 have hm:∀ b u,H b=some u->¬ Js (some u)->b≠x:=λb u q nm z=>by subst z;rw[q]at mu;exact nm mu
 refine⟨λb u q n _ _=>k b u (hb b n) q,λb u q n _ _=>⟨u.slots,k b u (hb b n) q⟩,λb u q n _=>by rw[ai (hx b n)];exact n,λb u q _=>?_,
  λb xs q=>by rw[ai (hm b _ q λz=>z)];exact q,λb u xs q=>by rw[ai (hm b _ q λz=>z)];exact q,λb ps q=>⟨#[],by rw[ai (hm b _ q λz=>z),q];simp⟩⟩
 by_cases hbe:b=e
 .subst hbe;exact heo
 .exact⟨u,k b u hbe q⟩
end
abbrev Ea (h:Heap)(H:Hp):List Addr:=(List.range h.objs.size).filter λa=>(H a).isSome
abbrev oH (h:Heap)(H:Hp):Heap:=W.hideAll h (Ea h H)
def v8 (h:Heap)(H:Hp):(oH h H).objs.size=h.objs.size:=W.hideAll_size _ _
def yB {o:Obj}(e:h.get? b=some o)(n:H b=none):(oH h H).get? b=some o:=
 W.hideAll_get _ e λhm=>by
  have q:(H b).isSome=true:=(List.mem_filter.mp hm).2;rw[n]at q;simp at q
def BE {o:Obj}(e:(oH h H).get? b=some o):h.get? b=some o/\H b=none:=by
 have e':h.get? b=some o:=W.of_hideAll (Ea h H) e;refine⟨e',?_⟩;cases q:H b with
 |none=>rfl
 |some x=>
  have hm:b ∈ Ea h H:=List.mem_filter.mpr ⟨mem_range.mpr (ut e'),by simp[q]⟩;have z:(oH h H).get? b=none:=W.hideAll_none (Ea h H) hm;rw[z]at e;cases e
structure Mod (K:W.Frag) (mg:ME) (base:Heap):Prop where
 kin:K.In base
 glob:base.Ns mainGlobals mg
 blt:∃ mb,base.Ns builtinsNs mb/\∀ x:Str,x≠"__name__"->mb x=bootBuiltins x
 nolimit:base.NoLimit
/-- the context:a def's body (or a comprehension's block) running. base:fixed through the whole law;s₀,H₀:the entry;outer:the frames whose slots others may change (a def's callers);stack:all frames that run;
  ex:iterators that were made ahead of the entry and are walked here (a comprehension's);fn:the names whose cells were made at the entry (a def:all;a comprehension's block:its own);calm:not within an except bM;pn:Y that every state bears;xe:what is wanted of an exception that leaves the code -/
structure Cx where
 prog:Program
 w:World
 K:W.Frag
 mg:Str->Option Value
 base:Heap
 A:Around
 N:List Str
 s₀:Shared
 H₀:Hp
 env:Env
 outer:List Env
 stack:List Env
 ex:List Addr
 fn:Str->Bool
 calm:Bool
 pn:List (Addr×Obj)
 xe:Value->Shared->Prop
abbrev oA (l:List Env):List Addr:=l.filterMap (·.frame)
noncomputable abbrev Cx.fs (X:Cx):List Addr:=oA X.outer
abbrev JT (sc:Scope)(x:Str):Prop:=sc.names.lookup x=some .local\/sc.names.lookup x=some .cell\/sc.names.lookup x=some .free
abbrev Loc (sc:Scope)(x:Str):Prop:=sc.names.lookup x=some .local\/sc.names.lookup x=some .cell
abbrev Look (env:Env)(h:Heap)(m:ME)(x:Str)(u:Value):Prop:=
 (env.kindOf x=some .local/\m x=some u)\/((env.kindOf x=some .cell\/env.kindOf x=some .free)/\∃ c,env.cells.lookup x=some c/\h.IsCell c (some u))
structure Cx.Ok (X:Cx):Prop where
 mod:Mod X.K X.mg X.base
 kind:X.env.scope.kind=.function
 glob:X.env.globals=mainGlobals
 blt:X.env.builtins=builtinsNs
 above:X.s₀.heap.objs.size<=X.env.locals
 inj:∀ x y c,X.env.cells.lookup x=some c->X.env.cells.lookup y=some c->x=y
 has:∀ x,(X.env.kindOf x=some .cell\/X.env.kindOf x=some .free)->∃ c,X.env.cells.lookup x=some c
 cab:∀ x c,X.fn x=true->X.env.cells.lookup x=some c->X.s₀.heap.objs.size<=c
 hd:X.calm=true->X.A.handled=none
 frames:X.A.frames=some X.stack
 stk:X.stack=X.outer\/(X.stack=X.env::X.outer/\X.env.frame=some X.env.locals)
 exf:∀ b ∈ X.ex,b≠X.env.locals/\∀ x c,X.env.cells.lookup x=some c->c≠b
 bs:∀ b o,X.base.get? b=some o->X.s₀.heap.get? b=some o/\X.H₀ b=none
 bsz:X.base.objs.size<=X.s₀.heap.objs.size
 noex:∀ b o,X.base.get? b=some o->b ∉ X.ex
 exfs:∀ b ∈ X.ex,b ∉ X.fs
 jM:X.s₀.heap.FunFrames X.base X.outer
 frf:∀ b ∈ X.fs,X.H₀ b=none
structure Inv (X:Cx) (Y:MD) (U:List (Option V)) (H:Hp) (s:Shared):Prop where
 ok:X.Ok
 os:s.os=X.s₀.os
 bare:AllBare s.gens
 base:Un X.fs X.ex X.H₀ H X.s₀.heap s.heap
 loc:∃ m,s.heap.Ns X.env.locals m/\∀ (i:Nat) (x:Str) (v:V),X.N[i]? =some x->U[i]? =some (some v)->JT X.env.scope x->∃ u,RelV v u/\Look X.env s.heap m x u
 cell:∀ x c,X.env.cells.lookup x=some c->∃ v,s.heap.IsCell c v
 free:H X.env.locals=none
 freeC:∀ x c,X.env.cells.lookup x=some c->H c=none
 pin:∀ p ∈ X.pn++Y,s.heap.get? p.1=some p.2/\H p.1=none/\p.1≠X.env.locals/\p.1 ∉ X.fs/\∀ v,p.2.data≠.cell v
 hok:gb X.prog X.w H s.heap
 len:U.length=X.N.length
variable {x:Str}{g':Array GenState}{ch:List Addr}{i:Nat}{M:Model}{A:Around}{E:MC}{v:V}
section
variable {X:Cx}{Y:MD}{U:List (Option V)}{H H':Hp}{s:Shared}{h':Heap}
def Cx.Ok.KC (ok:X.Ok){o:Obj}(e:X.base.get? b=some o):b ∉ X.fs:=λhb=>by
 have:=(ok.jM.mem hb).1;rw[e]at this;cases this
def Inv.bs (I:Inv X Y U H s):∀ b o,X.base.get? b=some o->s.heap.get? b=some o/\H b=none:=λb o e=>
 ⟨I.base.keep b o (I.ok.bs b o e).1 (I.ok.bs b o e).2 (I.ok.KC e) (I.ok.noex b o e),I.base.free b o (I.ok.bs b o e).1 (I.ok.bs b o e).2 (I.ok.noex b o e)⟩
def Inv.bk (I:Inv X Y U H s):∀ b o,X.base.get? b=some o->s.heap.get? b=some o:=λb o e=>(I.bs b o e).1
def Inv.mod (I:Inv X Y U H s):Mod X.K X.mg X.base:=I.ok.mod
def Inv.b9 (I:Inv X Y U H s):X.K.In s.heap:=I.ok.mod.kin.keeps I.bk
def Inv.lt (I:Inv X Y U H s):X.env.locals<s.heap.objs.size:=let⟨_,hn,_⟩:=I.loc;hn.lt
def Inv.sz (I:Inv X Y U H s):X.s₀.heap.objs.size<=s.heap.objs.size:=Nat.le_trans I.ok.above (Nat.le_of_lt I.lt)
def Inv.KS (I:Inv X Y U H s)(h:s.heap.objs.size<=a):a ∉ X.fs:=λhb=>by
 obtain⟨_,o,ho,_⟩:=I.ok.jM.mem hb;exact absurd (ol (ut ho) (Nat.le_trans I.sz h)) (Nat.lt_irrefl _)
def Inv.yk (I:Inv X Y U H s):∀ x c,X.env.cells.lookup x=some c->c≠X.env.locals:=λx c e z=>by
 obtain⟨v,o,ho,hd⟩:=I.cell x c e;obtain⟨m,⟨o',es,ep,ho',hd',_⟩,_⟩:=I.loc;rw[z,ho']at ho;cases ho;rw[hd']at hd;cases hd
def Inv.jM (I:Inv X Y U H s):s.heap.FunFrames X.base X.outer:=by
 have all:∀ (l:List Env),(∀ b ∈ oA l,b ∈ X.fs)->X.s₀.heap.FunFrames X.base l->s.heap.FunFrames X.base l:=by
  intro l
  induction l with
  |nil=>intro _ _;trivial
  |cons env r ih=>
   intro hs hl;obtain⟨hk,⟨L,o,hf,hn,ho,hd⟩,hr⟩:=hl;have hL:L ∈ X.fs:=hs L (by unfold oA;rw[filterMap_cons,hf];exact mo);obtain⟨sl,e⟩:=I.base.slot L o ho (I.ok.frf L hL) hL λz=>I.ok.exfs L z hL
   exact⟨hk,⟨L,_,hf,hn,e,hd⟩,ih (λb hb=>hs b (by unfold oA;rw[filterMap_cons,hf];exact dL _ hb)) hr⟩
 exact all X.outer (λ_ hb=>hb) I.ok.jM
def Inv.stack (I:Inv X Y U H s):s.heap.FunFrames X.base X.stack:=by
 rcases I.ok.stk with e|⟨e,hf⟩
 .rw[e];exact I.jM
 .rw[e];obtain⟨m,hn,_⟩:=I.loc;refine .cons (by rw[I.ok.kind];decide) hf hn ?_ I.jM;exact Heap.get?_none_of_le (Nat.le_trans I.ok.bsz I.ok.above)
def Inv.iU (I:Inv X Y U H s):∀ b ∈ oA X.stack,b ∈ X.env.locals::X.fs:=λb hb=>by
 rcases I.ok.stk with e|⟨e,hf⟩
 .rw[e]at hb;exact dL _ hb
 .rw[e]at hb;unfold oA at hb;rw[filterMap_cons,hf]at hb;exact hb
def Inv.oo (I:Inv X Y U H s):∀ b ∈ oA X.stack,H b=none:=λb hb=>by
 rcases nb.mp (I.iU b hb) with e|hb
 .rw[e];exact I.free
 .obtain⟨_,o,ho,_⟩:=I.ok.jM.mem hb;exact I.base.free b o ho (I.ok.frf b hb) λz=>I.ok.exfs b z hb
def Inv.step {t':Nat}{d':Drawn}(I:Inv X Y U H s)
  (hch:∀ b ∈ ch,(b ∈ X.ex\/X.s₀.heap.objs.size<=b)/\b≠X.env.locals/\(∀ x c,X.env.cells.lookup x=some c->c≠b)/\∀ p ∈ X.pn++Y,p.1≠b)
  (keep:∀ b o,b≠X.env.locals->b ∉ X.fs->b ∉ ch->s.heap.get? b=some o->H b=none->h'.get? b=some o)
  (slot:∀ b o,b≠X.env.locals->b ∈ X.fs->b ∉ ch->s.heap.get? b=some o->H b=none->∃ sl,h'.get? b=some { o with slots:=sl }) (free:∀ b o,b ∉ ch->s.heap.get? b=some o->H b=none->H' b=none)
  (there:∀ b o,b ∉ ch->s.heap.get? b=some o->∃ o',h'.get? b=some o')
  (tups:∀ b xs,H b=some (.tup xs)->H' b=some (.tup xs)) (frzs:∀ b o u,H b=some (.frz o u)->H' b=some (.frz o u)) (tbls:∀ b ps,H b=some (.tbl ps)->∃ more,H' b=some (.tbl (ps++more)))
  (ns:∀ m,s.heap.Ns X.env.locals m->h'.Ns X.env.locals m) (hok:gb X.prog X.w H' h') (hg:AllBare g'):
  Inv X Y U H' { s with heap:=h',gens:=g',drawn:=d',toks:=t' }:=by
 have neL:∀ b o,X.s₀.heap.get? b=some o->b≠X.env.locals:=λb o e=>pi (ol (ut e) I.ok.above)
 have neC:∀ b o,X.s₀.heap.get? b=some o->b ∉ X.ex->b ∉ ch:=λb o e hx hb=>by
  rcases(hch b hb).1 with z|z
  .exact hx z
  .exact absurd (ol (ut e) z) (Nat.lt_irrefl _)
 have cellK:∀ x c,X.env.cells.lookup x=some c->∀ v,s.heap.IsCell c v->h'.IsCell c v:=λx c e v ⟨o,ho,hd⟩=>by
  have nch:c ∉ ch:=λz=>(hch c z).2.2.1 x c e rfl
  by_cases hc:c ∈ X.fs
  .obtain⟨sl,q⟩:=slot c o (I.yk x c e) hc nch ho (I.freeC x c e);exact⟨_,q,hd⟩
  .exact⟨o,keep c o (I.yk x c e) hc nch ho (I.freeC x c e),hd⟩
 refine⟨I.ok,I.os,hg,⟨λb o e n hb hx=>?_,λb o e n hb hx=>?_,λb o e n hx=>?_,λb o e hx=>?_,λb xs e=>tups b xs (I.base.tups b xs e),λb o xs e=>frzs b o xs (I.base.frzs b o xs e),λb ps e=>?_⟩,?_,λx c e=>?_,?_,λx c e=>?_,λp hp=>?_,hok,I.len⟩
 .exact keep b o (neL b o e) hb (neC b o e hx) (I.base.keep b o e n hb hx) (I.base.free b o e n hx)
 .obtain⟨sl,e1⟩:=I.base.slot b o e n hb hx;obtain⟨sl',e2⟩:=slot b _ (neL b o e) hb (neC b o e hx) e1 (I.base.free b o e n hx);exact⟨sl',e2⟩
 .obtain⟨o',e1⟩:=I.base.there b o e hx;exact free b o' (neC b o e hx) e1 (I.base.free b o e n hx)
 .obtain⟨o',e1⟩:=I.base.there b o e hx;exact there b o' (neC b o e hx) e1
 .obtain⟨m1,e1⟩:=I.base.tbls b ps e;obtain⟨m2,e2⟩:=tbls b _ e1;exact⟨m1++m2,by rw[e2,Array.append_assoc]⟩
 .obtain⟨m,hn,hl⟩:=I.loc;refine⟨m,ns m hn,λi x v e1 e2 e3=>?_⟩;obtain⟨u,r,l⟩:=hl i x v e1 e2 e3;refine⟨u,r,?_⟩;rcases l with l|⟨k,c,e,z⟩
  .exact .inl l
  .exact .inr ⟨k,c,e,cellK x c e _ z⟩
 .obtain⟨v,z⟩:=I.cell x c e;exact⟨v,cellK x c e v z⟩
 .obtain⟨m,⟨o,_,_,ho,_⟩,_⟩:=I.loc;exact free _ o (λz=>(hch _ z).2.1 rfl) ho I.free
 .obtain⟨v,o,ho,hd⟩:=I.cell x c e;exact free c o (λz=>(hch c z).2.2.1 x c e rfl) ho (I.freeC x c e)
 .obtain⟨e,n,ne,nf,d⟩:=I.pin p hp;have nch:p.1 ∉ ch:=λz=>(hch p.1 z).2.2.2 p hp rfl
  exact⟨keep p.1 p.2 ne nf nch e n,free p.1 p.2 nch e n,ne,nf,d⟩
def Inv.un {t':Nat}(I:Inv X Y U H s)(u:Un X.fs [] H H' s.heap h')(hok:gb X.prog X.w H' h'):Inv X Y U H' { s with heap:=h',toks:=t' }:=by
 obtain⟨m,⟨o,es,ep,ho,r⟩,_⟩:=id I.loc;obtain⟨sl,hL⟩:=u.any ho I.free (by simp);exact I.step (g':=s.gens) (d':=s.drawn) (ch:=[]) (λ_ z=>nomatch z) (λb o _ hb _ e n=>u.keep b o e n hb (by simp)) (λb o _ hb _ e n=>u.slot b o e n hb (by simp)) (λb o _ e n=>u.free b o e n (by simp)) (λb o _ e=>u.there b o e (by simp)) u.tups u.frzs u.tbls (λm' hm=>by
  obtain⟨o',es',ep',ho',r'⟩:=hm;rw[ho]at ho';cases ho';exact⟨_,es',ep',hL,r'⟩) hok I.bare
def Inv.call {t':Nat}{d':Drawn}(I:Inv X Y U H s)(u:Un (oA X.stack) ch H H' s.heap h')(hok:gb X.prog X.w H' h')(hg:AllBare g')
  (hch:∀ b ∈ ch,(b ∈ X.ex\/X.s₀.heap.objs.size<=b)/\b≠X.env.locals/\(∀ x c,X.env.cells.lookup x=some c->c≠b)/\∀ p ∈ X.pn++Y,p.1≠b):
  Inv X Y U H' { s with heap:=h',gens:=g',drawn:=d',toks:=t' }:=by
 obtain⟨m,⟨o,es,ep,ho,r⟩,_⟩:=id I.loc;obtain⟨sl,hL⟩:=u.any ho I.free λz=>(hch _ z).2.1 rfl
 exact I.step (ch:=ch) hch (λb o hL hb hc e n=>u.keep b o e n (λz=>(nb.mp (I.iU b z)).elim hL hb) hc) (λb o _ _ hc e n=>u.any e n hc) (λb o hc e n=>u.free b o e n hc) (λb o hc e=>u.there b o e hc) u.tups u.frzs u.tbls (λm' hm=>by
  obtain⟨o',es',ep',ho',r'⟩:=hm;rw[ho]at ho';cases ho';exact⟨_,es',ep',hL,r'⟩) hok hg
def Inv.turned {t':Nat}{it:Addr}(I:Inv X Y U H s)(k:∀ b o,b≠it->s.heap.get? b=some o->h'.get? b=some o) (hn:H it=none) (hL:it≠X.env.locals)
  (h1:it ∈ X.ex\/X.s₀.heap.objs.size<=it) (h2:∀ x c,X.env.cells.lookup x=some c->c≠it) (h3:∀ p ∈ X.pn++Y,p.1≠it):Inv X Y U H { s with heap:=h',toks:=t' }:=by
 have nit:∀ b u,H b=some u->b≠it:=λb u e z=>by rw[z,hn]at e;cases e
 refine I.step (g':=s.gens) (d':=s.drawn) (ch:=[it]) (λb hb=>?_) (λb o _ _ hc e _=>k b o (λz=>hc (by simp[z])) e) (λb o _ _ hc e _=>⟨o.slots,k b o (λz=>hc (by simp[z])) e⟩) (λ_ _ _ _ n=>n)
  (λb o hc e=>⟨o,k b o (λz=>hc (by simp[z])) e⟩) (λ_ _ e=>e) (λ_ _ _ e=>e) (λb ps e=>⟨#[],by rw[e];simp⟩) (λm hm=>?_) (λb u e=>?_) I.bare
 .have e:b=it:=by simpa using hb
  subst e;exact⟨h1,hL,h2,h3⟩
 .obtain⟨o,es,ep,ho,r⟩:=hm;exact⟨o,es,ep,k _ o (Ne.symm hL) ho,r⟩
 .refine(I.hok b u e).jR (λc v hc q=>k c v ?_ q) (λ_ q=>q) λ_ _ q=>q
  rcases hc with z|z
  .rw[z];exact nit b u e
  .exact nit c _ z
def Inv.tok (I:Inv X Y U H s)(t:Nat):Inv X Y U H { s with toks:=t }:=I.un (h':=s.heap) (t':=t) Un.refl I.hok
def Inv.kept {t':Nat}(I:Inv X Y U H s)(k:∀ b u,s.heap.get? b=some u->h'.get? b=some u):Inv X Y U H { s with heap:=h',toks:=t' }:=I.un (Un.kept k) (I.hok.kept k)
def Inv.laid {t':Nat}(I:Inv X Y U H s)(k:∀ b u,s.heap.get? b=some u->h'.get? b=some u) (hp:s.heap.objs.size<=a) (new:aS X.prog X.w (upd H a o) h' a o):
  Inv X Y U (upd H a o) { s with heap:=h',toks:=t' }:=I.un (Un.laid k hp (I.hok.fresh hp)) (I.hok.laid k hp new)
def Inv.write {x e:Addr}{t':Nat}(I:Inv X Y U H s)(mu:Js (H x))(he:e=x\/H e=some (.own x))(k:∀ b u,b≠e->s.heap.get? b=some u->h'.get? b=some u) (heo:∃ u,h'.get? e=some u)
  (new:aS X.prog X.w (upd H x o) h' x o):Inv X Y U (upd H x o) { s with heap:=h',toks:=t' }:=I.un (Un.write mu he k heo) (I.hok.write mu he k heo new)
def Inv.nJ {pins':MD}(I:Inv X Y U H s)(h:∀ p ∈ pins',s.heap.get? p.1=some p.2/\H p.1=none/\p.1≠X.env.locals/\p.1 ∉ X.fs/\∀ v,p.2.data≠.cell v):Inv X pins' U H s:=
 ⟨I.ok,I.os,I.bare,I.base,I.loc,I.cell,I.free,I.freeC,λp hp=>(mem_append.mp hp).elim (λz=>I.pin p (mem_append_left _ z)) (h p),I.hok,I.len⟩
def lx {N:List Str}(hN:N.Nodup){j:Nat}(a:N[i]? =some x)(b:N[j]? =some x):i=j:=by
 obtain⟨h1,e1⟩:=tz.mp a;obtain⟨h2,e2⟩:=tz.mp b;exact(List.getElem_inj hN).mp (e1.trans e2.symm)
variable {Q:MB}
def nu (I:Inv X Y U H s)(hN:X.N.Nodup)(hi:X.N[i]? =some x)(hx:Loc X.env.scope x)(r:RelV v u)
  (h:∀ s',Inv X Y (U.set i (some v)) H s'->(∃ a,Heap.SameBut a s.heap s'.heap/\(a=X.env.locals\/X.env.cells.lookup x=some a))->Q () s') (hf:X.fn x=true\/X.env.scope.names.lookup x=some .local:=by first|exact .inl rfl|exact .inr rfl|assumption):wpAny M A (storeName X.env x u) Q E s:=by
 obtain⟨m,hn,hl⟩:=id I.loc;have hcls:(X.env.scope.kind ==.class||(X.env.scope.kind ==.module&&X.env.locals != X.env.globals))=false:=by rw[I.ok.kind];rfl
 have hiσ:i<U.length:=by rw[I.len];exact(tz.mp hi).1
 have yk:=I.yk;have tracked:∀ {a:Addr}{h':Heap},(∃ o,s.heap.get? a=some o/\H a=none)->Heap.SameBut a s.heap h'->gb X.prog X.w H h':=λ{a h'} ha hs b ob e=>by
  obtain⟨_,_,hfree⟩:=ha;refine(I.hok b ob e).jR (λc w' hc q=>(hs.2 c ?_).trans q) (λ_ q=>q) λ_ _ q=>q
  rintro rfl;rcases hc with rfl|hc
  .rw[hfree]at e;cases e
  .rw[hfree]at hc;cases hc
 rcases hx with hk|hk
 .refine wpAny_storeName_local hk hn (λh' hn' hs=>?_) hcls;obtain⟨oL,_,_,hoL,_⟩:=id hn;refine h _ ⟨I.ok,I.os,I.bare,⟨λb o e n hb hx=>?_,λb o e n hb hx=>?_,I.base.free,λb o e hx=>?_,I.base.tups,I.base.frzs,I.base.tbls⟩,⟨_,hn',λj y v' e1 e2 e3=>?_⟩,λy c e=>?_,I.free,I.freeC,λp hp=>?_,tracked ⟨oL,hoL,I.free⟩ hs,by simpa using I.len⟩ ⟨_,hs,.inl rfl⟩
  .exact(hs.2 b (pi (ol (ut e) I.ok.above))).trans (I.base.keep b o e n hb hx)
  .obtain⟨sl,e1⟩:=I.base.slot b o e n hb hx;exact⟨sl,(hs.2 b (pi (ol (ut e) I.ok.above))).trans e1⟩
  .obtain⟨o',e1⟩:=I.base.there b o e hx;exact⟨o',(hs.2 b (pi (ol (ut e) I.ok.above))).trans e1⟩
  .by_cases hj:j=i
   .subst hj;rw[hi]at e1;cases e1;rw[getElem?_set_self hiσ]at e2;cases e2;exact⟨u,r,.inl ⟨hk,by simp⟩⟩
   .rw[getElem?_set_ne (Ne.symm hj)]at e2;obtain⟨u',r',q⟩:=hl j y v' e1 e2 e3;refine⟨u',r',?_⟩;rcases q with⟨k,e⟩|⟨k,c,e,z⟩
    .refine .inl ⟨k,?_⟩;have:y≠x:=λe=>hj (lx hN e1 (e▸hi))
     simp[this,e]
    .exact .inr ⟨k,c,e,z.sameBut hs (yk y c e)⟩
  .obtain⟨w',z⟩:=I.cell y c e;exact⟨w',z.sameBut hs (yk y c e)⟩
  .obtain⟨e,n,ne,nf,d⟩:=I.pin p hp;exact⟨(hs.2 p.1 ne).trans e,n,ne,nf,d⟩
 .have hfn:X.fn x=true:=by
   rcases hf with z|z
   .exact z
   .rw[z]at hk;cases hk
  obtain⟨c,hc⟩:=I.ok.has x (.inl hk);obtain⟨w',z⟩:=I.cell x c hc;refine wpAny_storeName_cell I.ok.kind hk hc z (λh' hc' hs=>?_);obtain⟨oc,hoc,hocd⟩:=id z;refine h { s with heap:=h' } ⟨I.ok,I.os,I.bare,⟨λb o e n hb hx=>?_,λb o e n hb hx=>?_,I.base.free,λb o e hx=>?_,I.base.tups,I.base.frzs,I.base.tbls⟩,⟨m,hn.sameBut hs (Ne.symm (yk x c hc)),λj y v' e1 e2 e3=>?_⟩,λy c' e=>?_,I.free,I.freeC,λp hp=>?_,tracked ⟨oc,hoc,I.freeC x c hc⟩ hs,by simpa using I.len⟩ ⟨c,hs,.inr hc⟩
  .exact(hs.2 b (pi (ol (ut e) (I.ok.cab x c hfn hc)))).trans (I.base.keep b o e n hb hx)
  .obtain⟨sl,e1⟩:=I.base.slot b o e n hb hx;exact⟨sl,(hs.2 b (pi (ol (ut e) (I.ok.cab x c hfn hc)))).trans e1⟩
  .obtain⟨o',e1⟩:=I.base.there b o e hx;exact⟨o',(hs.2 b (pi (ol (ut e) (I.ok.cab x c hfn hc)))).trans e1⟩
  .by_cases hj:j=i
   .subst hj;rw[hi]at e1;cases e1;rw[getElem?_set_self hiσ]at e2;cases e2;exact⟨u,r,.inr ⟨.inl hk,c,hc,hc'⟩⟩
   .rw[getElem?_set_ne (Ne.symm hj)]at e2;obtain⟨u',r',q⟩:=hl j y v' e1 e2 e3;refine⟨u',r',?_⟩;rcases q with q|⟨k,c',e,z'⟩
    .exact .inl q
    .refine .inr ⟨k,c',e,z'.sameBut hs ?_⟩;rintro rfl;exact hj (lx hN e1 (I.ok.inj _ _ _ e hc▸hi))
  .by_cases hcc:c'=c
   .subst hcc;exact⟨_,hc'⟩
   .obtain⟨w2,z2⟩:=I.cell y c' e;exact⟨w2,z2.sameBut hs hcc⟩
  .obtain⟨e,n,ne,nf,d⟩:=I.pin p hp;refine⟨(hs.2 p.1 ?_).trans e,n,ne,nf,d⟩;intro q;rw[q,hoc]at e;have q':oc=p.2:=Option.some.inj e;exact d w' (by rw[<-q'];exact hocd)
def bH (I:Inv X Y U H s)(hN:X.N.Nodup)(hi:X.N[i]? =some x)(hx:Loc X.env.scope x)(r:RelV v u)
  (h:∀ s',Inv X Y (U.set i (some v)) H s'->Q () s') (hf:X.fn x=true\/X.env.scope.names.lookup x=some .local:=by first|exact .inl rfl|exact .inr rfl|assumption):wpAny M A (storeName X.env x u) Q E s:=
 nu I hN hi hx r (λs' I' _=>h s' I') hf
def Inv.zP {s':Shared}(I:Inv X Y U H s)(ho:s'.os=s.os)(u:Un (oA X.stack) ch H H' s.heap s'.heap)(hok:gb X.prog X.w H' s'.heap)(hg:AllBare s'.gens)
  (hch:∀ b ∈ ch,(b ∈ X.ex\/X.s₀.heap.objs.size<=b)/\b≠X.env.locals/\(∀ x c,X.env.cells.lookup x=some c->c≠b)/\∀ p ∈ X.pn++Y,p.1≠b):Inv X Y U H' s':=by
 obtain⟨h',g',d',t',o'⟩:=s';have e:o'=s.os:=ho;subst e;exact I.call (g':=g') (t':=t') (d':=d') u hok hg hch
end
@[reducible]def XK:=Addr->Hp->Prop
@[reducible]def St:=List (Option V)
@[reducible]def VK:=V->Hp->Prop
@[reducible]def TE:=St->Hp->VK->Prop
@[reducible]def TT:=St->Hp->(Bool->Hp->Prop)->Prop
@[reducible]def TA:=St->Hp->(List V->Hp->Prop)->Prop
structure Ends where
 nx:St->Hp->Prop
 rt:VK
 bk:St->Hp->Prop:=λ_ _=>False
 ct:St->Hp->Prop:=λ_ _=>False
@[reducible]def TS:=Ends->St->Hp->Prop
abbrev EP (X:Cx)(Y:MD)(U:St)(Q:VK)(u:Value)(s':Shared):Prop:=∃ v H',Inv X Y U H' s'/\RelV v u/\Q v H'
abbrev TP (X:Cx)(Y:MD)(U:St)(Q:Bool->Hp->Prop)(b:Bool)(s':Shared):Prop:=∃ H',Inv X Y U H' s'/\Q b H'
abbrev AP (X:Cx)(Y:MD)(U:St)(Q:List V->Hp->Prop)(us:List Value)(s':Shared):Prop:=∃ vs H',Inv X Y U H' s'/\Vals vs us/\Q vs H'
abbrev SP (X:Cx)(Y:MD)(D:Ends)(f:Flow)(s':Shared):Prop:=
 match f with
 | .next=>∃ σ' H',Inv X Y σ' H' s'/\D.nx σ' H'
 | .brk=>∃ σ' H',Inv X Y σ' H' s'/\D.bk σ' H'
 | .cont=>∃ σ' H',Inv X Y σ' H' s'/\D.ct σ' H'
 | .ret u=>∃ v σ' H',Inv X Y σ' H' s'/\RelV v u/\D.rt v H'
abbrev PE (X:Cx)(e:Expr)(t:TE):Prop:=
 ∀ (Y:MD) (s:Shared) (U:St) (H:Hp) (Q:VK),Inv X Y U H s->t U H Q->wpAny (model X.prog X.w) X.A (eval e X.env) (EP X Y U Q) X.xe s
abbrev PT (X:Cx)(e:Expr)(t:TT):Prop:=
 ∀ (Y:MD) (s:Shared) (U:St) (H:Hp) (Q:Bool->Hp->Prop),Inv X Y U H s->t U H Q->wpAny (model X.prog X.w) X.A (isTrue e X.env (eval e X.env)) (TP X Y U Q) X.xe s
abbrev PW (X:Cx)(e:Expr)(t:TT):Prop:=
 ∀ (whole:Sem Value) (Y:MD) (s:Shared) (U:St) (H:Hp) (Q:Bool->Hp->Prop),Inv X Y U H s->t U H Q->wpAny (model X.prog X.w) X.A (isTrue e X.env whole) (TP X Y U Q) X.xe s
variable {e:Expr}
def PW.pt {X:Cx}{t:TT}(h:PW X e t):PT X e t:=h _
abbrev PA (X:Cx)(es:List Expr)(t:TA):Prop:=
 ∀ (pos:Pos) (Y:MD) (s:Shared) (U:St) (H:Hp) (Q:List V->Hp->Prop),Inv X Y U H s->t U H Q->wpAny (model X.prog X.w) X.A (spliced (backTo pos (bm es X.env))) (AP X Y U Q) X.xe s
abbrev PS (X:Cx)(st:Stmt)(t:TS):Prop:=
 ∀ (Y:MD) (s:Shared) (U:St) (H:Hp) (D:Ends),Inv X Y U H s->t D U H->wpAny (model X.prog X.w) X.A (exec st X.env) (SP X Y D) X.xe s
abbrev Dm (X:Cx)(st:List Stmt)(t:TS):Prop:=
 ∀ (Y:MD) (s:Shared) (U:St) (H:Hp) (D:Ends),Inv X Y U H s->t D U H->wpAny (model X.prog X.w) X.A (execs st X.env) (SP X Y D) X.xe s
variable {s:Shared}
def aB {α:Type}{t:Sem α}{Q Q':α->Shared->Prop}(h:wpAny M A t Q E s)(hQ:∀ a s,Q a s->Q' a s):wpAny M A t Q' E s:=wpAny_mono h hQ λ_ _ x=>x
variable {Q:MC}{Y:MD}{U:St}
section
variable {X:Cx}
abbrev J6 (i:Nat):TE:=λU H Q=>∃ v,U[i]? =some (some v)/\Q v H
abbrev tC (v:V):TE:=λ_ H Q=>Q v H
def FX {pos:Pos}(hN:X.N[i]? =some x)(hv:JT X.env.scope x)(hd:(x ==("__debug__":Str))=false:=by decide) (hcd:(x ==("__classdict__":Str))=false:=by decide):PE X (.Name x pos) (J6 i):=by
 intro Y s U H Q I h;obtain⟨v,e,h⟩:=h;obtain⟨m,hn,hl⟩:=I.loc;obtain⟨u,r,l⟩:=hl i x v hN e hv;have fin:EP X Y U Q u s:=⟨v,H,I,r,h⟩;rcases l with⟨hk,hm⟩|⟨hk,c,hc,hcell⟩
 .exact wpAny_Name (wpAny_loadName_local I.ok.kind hk hn hm fin) hd
 .rcases hk with hk|hk
  .exact wpAny_Name (wpAny_loadName_cell I.ok.kind hk hc hcell fin) hd
  .exact wpAny_Name (wpAny_loadName_free I.ok.kind hk hc hcell fin hcd) hd
def E8 {i j pos}:PE X (.Constant (.int i) j pos) (tC (.int i)):=λ_ _ _ H _ I h=>wpAny_Constant_int ⟨.int i,H,I.tok _,⟨_,rfl⟩,h⟩
def Ia {b j pos}:PE X (.Constant (.bool b) j pos) (tC (.bl b)):=λ_ _ _ H _ I h=>Constant_bool ⟨.bl b,H,I,rfl,h⟩
def FI {j pos}:PE X (.Constant .none j pos) (tC .non):=λ_ _ _ H _ I h=>Constant_none ⟨.non,H,I,rfl,h⟩
def xU {x j pos}:PE X (.Constant (.str x) j pos) (tC (.str x)):=λ_ _ _ H _ I h=>Calls.Constant_str ⟨.str x,H,I.tok _,⟨_,rfl⟩,h⟩
abbrev Gl (X:Cx)(x:Str):Prop:=X.env.kindOf x=some .globalImplicit
def bL {pos:Pos}(I:Inv X Y U H s)(hg:Gl X x)(hm:X.mg x=some u)(h:Q u s)
  (hd:(x ==("__debug__":Str))=false:=by decide):wpAny (model X.prog X.w) X.A (eval (.Name x pos) X.env) Q E s:=
 Calls.Name_function_global I.ok.kind hg (Calls.loadGlobal_global (by rw[I.ok.glob];exact I.mod.glob.keeps I.bk) hm h) hd
def dI {pos:Pos}(I:Inv X Y U H s)(hg:Gl X x)(hm:X.mg x=none)(hv:bootBuiltins x=some u)(h:Q u s)
  (hn:x≠"__name__":=by decide) (hd:(x ==("__debug__":Str))=false:=by decide):wpAny (model X.prog X.w) X.A (eval (.Name x pos) X.env) Q E s:=by
 obtain⟨mb,h1,h2⟩:=I.mod.blt;exact Calls.Name_function_global I.ok.kind hg (Calls.loadGlobal_builtin (by rw[I.ok.glob];exact I.mod.glob.keeps I.bk) hm (by rw[I.ok.blt];exact h1.keeps I.bk) ((h2 x hn).trans hv) h) hd
def uB {pos:Pos}(hg:Gl X x)(hm:X.mg x=some u)(r:RelV v u)(hd:(x ==("__debug__":Str))=false:=by decide):PE X (.Name x pos) (tC v):=
 λ_ _ _ H _ I h=>bL I hg hm ⟨v,H,I,r,h⟩ hd
def Bk {pos:Pos}(hg:Gl X x)(hm:X.mg x=none)(hv:bootBuiltins x=some u)(r:RelV v u)(hn:x≠"__name__":=by decide) (hd:(x ==("__debug__":Str))=false:=by decide):PE X (.Name x pos) (tC v):=
 λ_ _ _ H _ I h=>dI I hg hm hv ⟨v,H,I,r,h⟩ hn hd
variable {a b:Expr}{ta tb:TE}{pos:Pos}
variable {tA tB':TT}{rest:List Expr}
abbrev J8 (t u:TT):TT:=λU H Q=>t U H λc H1=>if c=true then u U H1 Q else Q false H1
abbrev Mj (t u:TT):TT:=λU H Q=>t U H λc H1=>if c=true then Q true H1 else u U H1 Q
abbrev Kl (t:TT):TT:=λU H Q=>t U H λc H1=>Q (!c) H1
def B6 (ha:PT X a tA):PW X (.BoolOp .And [a] pos) tA:=by
 intro wh Y s U H Q I h;refine isTrue_and (aB (ha Y s U H Q I h) λc s1 e=>?_);cases c with
 |true=>exact isTrue_and_nil e
 |false=>exact e
def GD (ha:PT X a tA):PW X (.BoolOp .Or [a] pos) tA:=by
 intro wh Y s U H Q I h;refine isTrue_or (aB (ha Y s U H Q I h) λc s1 e=>?_);cases c with
 |false=>exact isTrue_or_nil e
 |true=>exact e
def EE (ha:PT X a tA)(hb:PW X (.BoolOp .And (b::rest) pos) tB'):PW X (.BoolOp .And (a::b::rest) pos) (J8 tA tB'):=by
 intro wh Y s U H Q I h;refine isTrue_and (aB (ha Y s U H _ I h) λc s1 ⟨H1,I1,q1⟩=>?_);cases c with
 |true=>exact hb wh Y s1 U H1 Q I1 q1
 |false=>exact⟨H1,I1,q1⟩
def JA (ha:PT X a tA)(hb:PW X (.BoolOp .Or (b::rest) pos) tB'):PW X (.BoolOp .Or (a::b::rest) pos) (Mj tA tB'):=by
 intro wh Y s U H Q I h;refine isTrue_or (aB (ha Y s U H _ I h) λc s1 ⟨H1,I1,q1⟩=>?_);cases c with
 |true=>exact⟨H1,I1,q1⟩
 |false=>exact hb wh Y s1 U H1 Q I1 q1
def FU (ha:PT X a tA):PT X (.UnaryOp .Not a pos) (Kl tA):=by
 intro Y s U H Q I h;exact isTrue_not (ha Y s U H (λc H1=>Q (!c) H1) I h)
abbrev Il (ta tb:TE):TE:=λU H Q=>ta U H λx H1=>∃ c,x=.bl c/\if c=true then tb U H1 Q else Q (.bl false) H1
abbrev KG (ta tb:TE):TE:=λU H Q=>ta U H λx H1=>∃ c,x=.bl c/\if c=true then Q (.bl true) H1 else tb U H1 Q
abbrev Jb (ta:TE):TE:=λU H Q=>ta U H λx H1=>∃ c,x=.bl c/\Q (.bl (!c)) H1
def Aj {op}{t:TE}(h:PE X a t):PE X (.BoolOp op [a] pos) t:=λY s U H Q I hw=>BoolOp_one (h Y s U H Q I hw)
def Gh (ha:PE X a ta)(hb:PE X (.BoolOp .And (b::rest) pos) tb):PE X (.BoolOp .And (a::b::rest) pos) (Il ta tb):=by
 intro Y s U H Q I h;refine BoolOp_and (aB (ha Y s U H _ I h) λv s1 ⟨x,H1,I1,r1,q1⟩=>?_);obtain⟨c,rfl,q1⟩:=q1;cases r1;refine bi ?_;cases c with
 |true=>exact hb Y s1 U H1 Q I1 q1
 |false=>exact⟨.bl false,H1,I1,rfl,q1⟩
def G8 (ha:PE X a ta)(hb:PE X (.BoolOp .Or (b::rest) pos) tb):PE X (.BoolOp .Or (a::b::rest) pos) (KG ta tb):=by
 intro Y s U H Q I h;refine BoolOp_or (aB (ha Y s U H _ I h) λv s1 ⟨x,H1,I1,r1,q1⟩=>?_);obtain⟨c,rfl,q1⟩:=q1;cases r1;refine bi ?_;cases c with
 |false=>exact hb Y s1 U H1 Q I1 q1
 |true=>exact⟨.bl true,H1,I1,rfl,q1⟩
def EA (ha:PE X a ta):PE X (.UnaryOp .Not a pos) (Jb ta):=by
 intro Y s U H Q I h;refine UnaryOp_ (aB (ha Y s U H _ I h) λv s1 ⟨x,H1,I1,r1,q1⟩=>?_);obtain⟨c,rfl,q1⟩:=q1;cases r1;exact not_of (bi ⟨.bl (!c),H1,I1,rfl,q1⟩)
abbrev LW (t:TT)(ta tb:TE):TE:=λU H Q=>t U H λc H1=>if c=true then ta U H1 Q else tb U H1 Q
def yf {c:Expr}(hc:PT X c tA)(ha:PE X a ta)(hb:PE X b tb):PE X (.IfExp c a b pos) (LW tA ta tb):=by
 intro Y s U H Q I h;refine wpAny_IfExp (aB (hc Y s U H _ I h) λd s1 ⟨H1,I1,q1⟩=>?_);cases d with
 |true=>exact ha Y s1 U H1 Q I1 q1
 |false=>exact hb Y s1 U H1 Q I1 q1
end
abbrev aU (K:W.Frag)(H:Hp)(a:Addr)(xs:List V):Prop:=
 Rd H a (.lst xs)\/
  ∃ (o:Obj) (its:Array Value) (n:Nat),K.lookup a=some o/\o.cls=.type "list"/\o.dict=none/\o.data=.seq its n/\its.size<=bn/\Vals xs its.toList
abbrev bc (K:W.Frag)(H:Hp)(a:Addr)(xs:List V):Prop:=
 Rd H a (.tup xs)\/
  ∃ (o:Obj) (its:Array Value) (n:Nat),K.lookup a=some o/\o.cls=.type "tuple"/\o.data=.seq its n/\its.size<=bn/\Vals xs its.toList
abbrev KZ:Value->Option V
 | .none=>some .non
 | .bool b=>some (.bl b)
 | .int i _=>some (.int i)
 | .str x _=>some (.str x)
 | .bytes b _=>some (.byt b)
 | .float b _=>some (.flt b)
 | .ref a=>some (.ref a)
 | .type n=>some (.ty n)
 |_=>none
def RelV.abs {x:V}(r:RelV x u):KZ u=some x:=by
 cases x with
 |non=>cases r;rfl
 |bl _=>cases r;rfl
 |int _=>obtain⟨t,rfl⟩:=r;rfl
 |str _=>obtain⟨t,rfl⟩:=r;rfl
 |byt _=>obtain⟨t,rfl⟩:=r;rfl
 |flt _=>obtain⟨t,rfl⟩:=r;rfl
 |ref _=>cases r;rfl
 |ty _=>cases r;rfl
def RelV.inj {x y:V}(r:RelV x u)(q:RelV y u):x=y:=Option.some.inj (r.abs.symm.trans q.abs)
def Vals.inj:∀ {xs ys:List V}{us:List Value},Vals xs us->Vals ys us->xs=ys
 |_,_,_,.nil,.nil=>rfl
 |_,_,_,.cons r t,.cons r' t'=>by rw[r.inj r',Vals.inj t t']
section
variable {X:Cx}{Y:MD}{U:St}{H:Hp}{s:Shared}{a:Addr}{xs ys:List V}
def aU.of {K:W.Frag}(h:H a=some (.lst xs)):aU K H a xs:=.inl (.inl h)
def bc.of {K:W.Frag}(h:H a=some (.tup xs)):bc K H a xs:=.inl (.inl h)
def Inv.list (I:Inv X Y U H s)(h:aU X.K H a xs):∃ its:List Value,Vals xs its/\PlainL s.heap a its.toArray/\xs.length<=bn:=by
 rcases h with h|⟨o,its,n,hk,hc,hd,hs,hz,r⟩
 .obtain⟨z,its,n,r,e⟩:=h.ok I.hok;exact⟨its,r,⟨_,n,e,rfl,rfl,rfl⟩,z⟩
 .refine⟨its.toList,r,⟨o,n,I.b9 a o hk,hc,hd,by simpa using hs⟩,?_⟩;have e:=r.length;simp only[Array.length_toList]at e
  omega
def Inv.tuple (I:Inv X Y U H s)(h:bc X.K H a xs):∃ its:List Value,Vals xs its/\IsTup s.heap a its.toArray/\xs.length<=bn:=by
 rcases h with h|⟨o,its,n,hk,hc,hs,hz,r⟩
 .obtain⟨z,its,r,p⟩:=h.ok I.hok;exact⟨its,r,p,z⟩
 .refine⟨its.toList,r,⟨o,I.b9 a o hk,hc,n,by simpa using hs⟩,?_⟩;have e:=r.length;simp only[Array.length_toList]at e
  omega
def Inv.k6 (I:Inv X Y U H s)(h:aU X.K H a xs)(h':aU X.K H a ys):xs=ys:=by
 obtain⟨its,r,⟨o,n,e,_,_,d⟩,_⟩:=I.list h;obtain⟨its',r',⟨o',n',e',_,_,d'⟩,_⟩:=I.list h';rw[e]at e';cases e';rw[d]at d'
 injection d' with d1 _
 have:its=its':=by simpa using congrArg Array.toList d1
 subst this;exact r.inj r'
def Inv.iP (I:Inv X Y U H s)(h:bc X.K H a xs)(h':bc X.K H a ys):xs=ys:=by
 obtain⟨its,r,⟨o,e,_,n,d⟩,_⟩:=I.tuple h;obtain⟨its',r',⟨o',e',_,n',d'⟩,_⟩:=I.tuple h';rw[e]at e';cases e';rw[d]at d'
 injection d' with d1 _
 have:its=its':=by simpa using congrArg Array.toList d1
 subst this;exact r.inj r'
end
section
variable {X:Cx}{Y:MD}{U:St}{H:Hp}{s:Shared}{E:MC}
end
section
variable {X:Cx}{st:Stmt}{rest:List Stmt}{t u:TS}{e:Expr}{te:TE}{pos:Pos}
abbrev G5:TS:=λD U H=>D.nx U H
abbrev K2 (t u:TS):TS:=λD U H=>t { D with nx:=u D } U H
def CY:Dm X [] G5:=λ_ _ U H _ I h=>wpAny_execs_nil ⟨U,H,I,h⟩
def yG (h1:PS X st t)(h2:Dm X rest u):Dm X (st::rest) (K2 t u):=by
 intro Y s U H D I h;refine wpAny_execs_cons (aB (h1 Y s U H { D with nx:=u D } I h) λf s1 q=>?_);cases f with
 |next=>
  obtain⟨σ',H',I',q⟩:=q;exact h2 Y s1 σ' H' D I' q
 |ret v=>exact q
 |brk=>exact q
 |cont=>exact q
def Inv.quiet (I:Inv X Y U H s):interactive X.env=false:=by simp[interactive,I.ok.kind]
abbrev HA (te:TE):TS:=λD U H=>te U H λ_ H1=>D.nx U H1
def AL (he:PE X e te)(hs:swapsWith e none pos.line X.env=pure false:=by rfl):PS X (.Expr e pos) (HA te):=by
 intro Y s U H D I h;exact wpAny_Expr_any (aB (he Y s U H _ I h) λv s1 ⟨x,H1,I1,r1,q1⟩=>⟨U,H1,I1,q1⟩) I.quiet hs
abbrev Le (te:TE):TS:=λD U H=>te U H D.rt
def Ez (he:PE X e te):PS X (.Return (some e) pos) (Le te):=by
 intro Y s U H D I h;exact wpAny_Return_some (aB (he Y s U H _ I h) λv s1 ⟨x,H1,I1,r1,q1⟩=>⟨x,U,H1,I1,r1,q1⟩)
abbrev KW (c:TT)(t u:TS):TS:=λD U H=>c U H λb H1=>if b=true then t D U H1 else u D U H1
def Jd {c:Expr}{a b:List Stmt}{tc:TT}(hc:PT X c tc)(ha:Dm X a t)(hb:Dm X b u):PS X (.If c a b pos) (KW tc t u):=by
 intro Y s U H D I h;refine wpAny_If (aB (hc Y s U H _ I h) λd s1 ⟨H1,I1,q1⟩=>?_);cases d with
 |true=>exact ha Y s1 U H1 D I1 q1
 |false=>exact hb Y s1 U H1 D I1 q1
end
@[reducible]def TG:=V->St->Hp->(St->Hp->Prop)->Prop
@[reducible]def A7:=List V->St->Hp->(St->Hp->Prop)->Prop
abbrev PG (X:Cx)(target:Expr)(t:TG):Prop:=
 ∀ (Y:MD) (s:Shared) (U:St) (H:Hp) (v:V) (u:Value) (Q:St->Hp->Prop),Inv X Y U H s->RelV v u->t v U H Q->
  wpAny (model X.prog X.w) X.A (assign target X.env u) (λ_ s'=>∃ σ' H',Inv X Y σ' H' s'/\Q σ' H') X.xe s
abbrev GP (X:Cx)(ts:List Expr)(t:A7):Prop:=
 ∀ (Y:MD) (s:Shared) (U:St) (H:Hp) (vs:List V) (us:List Value) (Q:St->Hp->Prop),Inv X Y U H s->Vals vs us->t vs U H Q->
  wpAny (model X.prog X.w) X.A (assignInOrder ((assignEach ts X.env).map (·.2)) us) (λ_ s'=>∃ σ' H',Inv X Y σ' H' s'/\Q σ' H') X.xe s
@[reducible]def vU:=V->V->V->Hp->(Hp->Prop)->Prop
abbrev AR (X:Cx)(t:vU):Prop:=
 ∀ (Y:MD) (s:Shared) (U:St) (H:Hp) (o i v:V) (ov iv u:Value) (Q:Hp->Prop),Inv X Y U H s->RelV o ov->RelV i iv->RelV v u->t o i v H Q->
  wpAny (model X.prog X.w) X.A (setItem ov iv u) (λ_ s'=>∃ H',Inv X Y U H' s'/\Q H') X.xe s
@[reducible]def JZ:=V->V->Hp->VK->Prop
abbrev JX (X:Cx)(op:Operator)(t:JZ):Prop:=
 ∀ (Y:MD) (s:Shared) (U:St) (H:Hp) (x y:V) (v u:Value) (Q:VK),Inv X Y U H s->RelV x v->RelV y u->t x y H Q->
  wpAny (model X.prog X.w) X.A (inplaceOp op v u) (EP X Y U Q) X.xe s
variable {es:List Expr}{k:Nat}{tg:Expr}{te:TE}
section
variable {X:Cx}{pos:Pos}
abbrev iq (i:Nat):TG:=λv U H Q=>Q (U.set i (some v)) H
def iD (hN:X.N.Nodup)(hi:X.N[i]? =some x)(hx:Loc X.env.scope x)(hf:X.fn x=true\/X.env.scope.names.lookup x=some .local:=by first|exact .inl rfl|exact .inr rfl|assumption):PG X (.Name x pos) (iq i):=by
 intro Y s U H v u Q I r h;exact wpAny_assign_Name (bH I hN hi hx r (λs' I'=>⟨_,H,I',h⟩) hf)
abbrev Kj:A7:=λvs U H Q=>vs=[]/\Q U H
abbrev Hu (t:TG)(u:A7):A7:=λvs U H Q=>∃ v r,vs=v::r/\t v U H λσ' H'=>u r σ' H' Q
def oE:GP X [] Kj:=by
 intro Y s U H vs us Q I r h;obtain⟨e,h⟩:=h;subst e;cases r;exact assignInOrder_nil ⟨U,H,I,h⟩
def iA {t:TG}{u:A7}(h1:PG X e t)(h2:GP X es u)
  (hs:(assignEach (e::es) X.env).map (·.2)=assign e X.env::(assignEach es X.env).map (·.2):=by rfl):GP X (e::es) (Hu t u):=by
 intro Y s U H vs us Q I r h;obtain⟨v,vr,e1,h⟩:=h;subst e1;cases r with
 |cons r rr=>
  rw[hs];refine assignInOrder_cons (aB (h1 Y s U H _ _ _ I r h) λ_ s1 ⟨σ1,H1,I1,q1⟩=>?_);exact h2 Y s1 σ1 H1 _ _ Q I1 rr q1
abbrev Dc (K:W.Frag)(n:Nat)(t:A7):TG:=λv U H Q=>∃ a xs,v=.ref a/\bc K H a xs/\xs.length=n/\t xs U H Q
def ou {t:A7}{n:Nat}(hc:X.calm=true)(h:GP X es t)
  (hn:(assignEach es X.env).length=n:=by rfl) (hst:(assignEach es X.env).findIdx? (·.1)=none:=by rfl):PG X (.Tuple es k pos) (Dc X.K n t):=by
 intro Y s U H v u Q I r hw;obtain⟨a,xs,e1,hq,hl,hw⟩:=hw;subst e1;cases r;obtain⟨its,rv,ht,hz⟩:=I.tuple hq;refine assign_Tuple_tuple (I.ok.hd hc) ht (by simp[hn,<-hl,rv.length]) hst λh' hx=>?_
 have I1:Inv X Y U H { s with heap:=h' }:=I.kept (t':=s.toks) λb o e=>hx b o (pi (ut e)) e
 exact h Y _ U H xs _ Q I1 (by simpa using rv) hw
abbrev Lc (to ti:TE)(t:vU):TG:=λv U H Q=>to U H λo H1=>ti U H1 λi H2=>t o i v H2 λH3=>Q U H3
def FP {o i:Expr}{to ti:TE}{t:vU}(ho:PE X o to)(hi:PE X i ti)(hs:AR X t)
  (ha:∀ v,assign (.Subscript o i pos) X.env v=(do
   let ov <-holding [v] (eval o X.env)
   let iv <-holding [v,ov] (eval i X.env)
   standAt pos
   holding [v,ov,iv] (setItem ov iv v)
   release [v,ov,iv] []):=by intro _;rfl):PG X (.Subscript o i pos) (Lc to ti t):=by
 intro Y s U H v u Q I r h;rw[ha];refine ad (bd (aB (ho Y s U H _ I h) λov s1 ⟨x,H1,I1,r1,q1⟩=>?_));refine ad (bd (aB (hi Y s1 U H1 _ I1 q1) λiv s2 ⟨y,H2,I2,r2,q2⟩=>?_));refine ad (wpAny_standAt (ad (bd (aB (hs Y s2 U H2 x y v ov iv u _ I2 r1 r2 r q2) λ_ s3 ⟨H3,I3,q3⟩=>?_))));exact wpAny_release ⟨U,H3,I3,q3⟩
abbrev HP (te:TE)(g:TG):TS:=λD U H=>te U H λx H1=>g x U H1 D.nx
def zF {g:TG}(he:PE X e te)(hg:PG X tg g)(hs:swapsWithSole [tg] e pos.line X.env=pure false:=by rfl) (hw:swappedStores [tg] e X.env=pure none:=by rfl)
  (h1:(assignEach [tg] X.env).map (·.2)=[assign tg X.env]:=by rfl):PS X (.Assign [tg] e pos) (HP te g):=by
 intro Y s U H D I h;refine wpAny_Assign_stores (aB (he Y s U H _ I h) λv s1 ⟨x,H1,I1,r1,q1⟩=>?_) hs hw;rw[h1];exact aB (hg Y s1 U H1 x v _ I1 r1 q1) λ_ s2 q=>q
def yh {pos':Pos}(hN:X.N.Nodup)(hi:X.N[i]? =some x)(hx:Loc X.env.scope x)(he:PE X e te)(hs:swapsWith e (some (.Name x pos')) pos.line X.env=pure false:=by rfl) (hf:X.fn x=true\/X.env.scope.names.lookup x=some .local:=by first|exact .inl rfl|exact .inr rfl|assumption):
  PS X (.Assign [.Name x pos'] e pos) (HP te (iq i)):=by
 intro Y s U H D I h;refine wpAny_Assign_Name (aB (he Y s U H _ I h) λv s1 ⟨y,H1,I1,r1,q1⟩=>?_) hs;exact bH I1 hN hi hx r1 (λs2 I2=>⟨_,H1,I2,q1⟩) hf
abbrev Ii (to ti te:TE)(tget:V->V->Hp->VK->Prop)(tip:JZ)(tset:vU):TS:=λD U H=>to U H λo H1=>ti U H1 λi H2=>tget o i H2 λx H3=>te U H3 λy H4=>tip x y H4 λz H5=>tset o i z H5 λH6=>D.nx U H6
abbrev Ef (X:Cx)(t:V->V->Hp->VK->Prop):Prop:=
 ∀ (Y:MD) (s:Shared) (U:St) (H:Hp) (o i:V) (ov iv:Value) (Q:VK),Inv X Y U H s->RelV o ov->RelV i iv->t o i H Q->
  wpAny (model X.prog X.w) X.A (getItem ov iv) (EP X Y U Q) X.xe s
def BQ {o i:Expr}{to ti:TE}{tget:V->V->Hp->VK->Prop}{tip:JZ}{tset:vU}{op:Operator}{tpos:Pos}(ho:PE X o to)(hi:PE X i ti)(hg:Ef X tget)(he:PE X e te)(hp:JX X op tip)(hs:AR X tset)
  (ha:∀ ov iv new,augStore i ov iv new=(do holding [new,ov,iv] (setItem ov iv new);release [new,ov,iv] [];pure .next):=by intros;rfl):PS X (.AugAssign (.Subscript o i tpos) op e pos) (Ii to ti te tget tip tset):=by
 intro Y s U H D I h;refine wpAny_AugAssign_SubscriptAny (aB (ho Y s U H _ I h) λov s1 ⟨x1,H1,I1,r1,q1⟩=>?_) ha;refine aB (hi Y s1 U H1 _ I1 q1) λiv s2 ⟨x2,H2,I2,r2,q2⟩=>?_
 refine aB (hg Y s2 U H2 x1 x2 ov iv _ I2 r1 r2 q2) λold s3 ⟨x3,H3,I3,r3,q3⟩=>?_
 refine aB (he Y s3 U H3 _ I3 q3) λv s4 ⟨x4,H4,I4,r4,q4⟩=>?_
 refine aB (hp Y s4 U H4 x3 x4 old v _ I4 r3 r4 q4) λnew s5 ⟨x5,H5,I5,r5,q5⟩=>?_
 exact aB (hs Y s5 U H5 x1 x2 x5 ov iv new _ I5 r1 r2 r5 q5) λ_ s6 ⟨H6,I6,q6⟩=>⟨U,H6,I6,q6⟩
abbrev LD (f:Int->Int->Int):JZ:=λx y H Q=>∃ i j,x=.int i/\y=.int j/\Q (.int (f i j)) H
def F3:JX X .Add (LD λi j=>i+j):=by
 intro Y s U H x y v u Q I r1 r2 h;obtain⟨i,j,e1,e2,q⟩:=h;subst e1;subst e2;obtain⟨t,rfl⟩:=r1;obtain⟨t',rfl⟩:=r2;exact iadd_int ⟨.int _,H,I.tok _,⟨_,rfl⟩,q⟩
def F8:JX X .Sub (LD λi j=>i-j):=by
 intro Y s U H x y v u Q I r1 r2 h;obtain⟨i,j,e1,e2,q⟩:=h;subst e1;subst e2;obtain⟨t,rfl⟩:=r1;obtain⟨t',rfl⟩:=r2;exact isub_int ⟨.int _,H,I.tok _,⟨_,rfl⟩,q⟩
end
section
variable {X:Cx}{pos:Pos}
end
structure It where
 go:Nat->Hp->Prop
 yld:Nat->Hp->V->Hp->Prop
 stop:Nat->Hp->Prop
abbrev iY (X:Cx)(Y:MD)(H:Hp)(b:Addr):Prop:=
 H b=none/\b≠X.env.locals/\b ∉ X.fs/\(b ∈ X.ex\/X.s₀.heap.objs.size<=b)/\(∀ x c,X.env.cells.lookup x=some c->c≠b)/\∀ p ∈ X.pn++Y,p.1≠b
def Inv.yu {X:Cx}{H':Hp}(I:Inv X Y U H s)(hb:s.heap.objs.size<=b)(hn:H' b=none):iY X Y H' b:=by
 refine⟨hn,Nat.ne_of_gt (ol I.lt hb),I.KS hb,.inr (Nat.le_trans I.sz hb),λx c e z=>?_,λp hp z=>?_⟩
 .obtain⟨v,q⟩:=I.cell x c e;exact absurd (ol q.lt (by rw[z];exact hb)) (Nat.lt_irrefl _)
 .exact absurd (ol (ut (I.pin p hp).1) (by rw[z];exact hb)) (Nat.lt_irrefl _)
structure Turn (P:Program) (w:World) (K:W.Frag) (tg:Expr) (J:It) (fp:List Addr) (it:Addr) (tn:Nat->Heap->Prop):Prop where
 mem:it ∈ fp
 obj:∀ i h,tn i h->∀ b ∈ fp,∃ o,h.get? b=some o/\∀ v,o.data≠.cell v
 keep:∀ i h h',tn i h->(∀ b ∈ fp,∀ o,h.get? b=some o->h'.get? b=some o)->tn i h'
 item:∀ (X:Cx),X.prog=P->X.w=w->X.K=K->X.calm=true->∀ (i:Nat) (Y:MD) (s:Shared) (U:St) (H:Hp) (E:MC),Inv X Y U H s->(∀ b ∈ fp,iY X Y H b)->tn i s.heap->J.go i H->
  wpAny (model P w) X.A (pyNext (.ref it)) (λr s1=>∃ u,r=some u/\
   wpAny (model P w) X.A (letOwnedTupleGo tg (.ref it) u) (λ_ s2=>∃ x H',Inv X Y U H' s2/\RelV x u/\J.yld i H x H'/\tn (i+1) s2.heap/\∀ b ∈ fp,H' b=none) E s1) E s
 done:∀ (X:Cx),X.prog=P->X.w=w->X.K=K->X.calm=true->∀ (i:Nat) (Y:MD) (s:Shared) (U:St) (H:Hp) (E:MC),Inv X Y U H s->(∀ b ∈ fp,iY X Y H b)->tn i s.heap->J.stop i H->
  wpAny (model P w) X.A (pyNext (.ref it)) (λr s1=>r=none/\Inv X Y U H s1) E s
 self:∀ (A:Around) (i:Nat) (s:Shared) (Q:MC) (E:MC),tn i s.heap->Q (.ref it) s->wpAny (model P w) A (pyIter (.ref it)) Q E s
@[reducible]def TI:=St->Hp->(It->Hp->Prop)->Prop
abbrev JL (X:Cx)(Y:MD)(U:St)(tg:Expr)(R:It->Hp->Prop)(itv:Value)(s2:Shared):Prop:=
 ∃ (it:Addr) (fp:List Addr) (tn:Nat->Heap->Prop) (J:It) (H':Hp),itv=.ref it/\Inv X Y U H' s2/\Turn X.prog X.w X.K tg J fp it tn/\tn 0 s2.heap/\(∀ b ∈ fp,iY X Y H' b)/\R J H'
abbrev PI (X:Cx)(tg iter:Expr)(wi:TI):Prop:=
 ∀ (Y:MD) (s:Shared) (U:St) (H:Hp) (R:It->Hp->Prop),Inv X Y U H s->wi U H R->
  wpAny (model X.prog X.w) X.A (eval iter X.env) (λv s1=>wpAny (model X.prog X.w) X.A (pyIter v) (JL X Y U tg R) X.xe s1) X.xe s
def Am {it:Addr}{o:Obj}{n:String}{vs:Array Value}{Q:MB}(ho:s.heap.get? it=some o)(hc:o.cls=.type n)(hd:o.data=.fields vs)
  (hn:["enumerate","zip","dict_itemiterator","dict_reverseitemiterator","odict_iterator","itertools.zip_longest","itertools.pairwise"].contains n=false) (hQ:Q () s):wpAny M A (letOwnedTupleGo tg (.ref it) u) Q E s:=by
 unfold letOwnedTupleGo;cases tg<;>first
  |exact am hQ
  |(cases u<;>first
    |exact am hQ
    |(refine ad (wpAny_load ho ?_)
      rw[hc,hd];show wpAny M A (if(["enumerate","zip","dict_itemiterator","dict_reverseitemiterator","odict_iterator","itertools.zip_longest","itertools.pairwise"].contains n&&vs[0]? ==some (rawInt _))=true then _ else _) Q E s;rw[if_neg (by intro h;rw[hn,Bool.false_and]at h;cases h)];exact am hQ))
abbrev GU (K:W.Frag)(a:Addr):It:=
 ⟨λi H=>∃ xs x,aU K H a xs/\xs[i]? =some x,λi H x H'=>H'=H/\∀ xs,aU K H a xs->xs[i]? =some x,λi H=>∃ xs,aU K H a xs/\xs.length<=i⟩
abbrev Hr (K:W.Frag)(a:Addr):It:=
 ⟨λi H=>∃ xs x,bc K H a xs/\xs[i]? =some x,λi H x H'=>H'=H/\∀ xs,bc K H a xs->xs[i]? =some x,λi H=>∃ xs,bc K H a xs/\xs.length<=i⟩
abbrev DW (lo:Int)(n:Nat):It:=⟨λi _=>i<n,λi H x H'=>H'=H/\x=.int (lo+i),λi _=>n<=i⟩
def vT {K:W.Frag}(a it:Addr):Turn P w K tg (GU K a) [it] it (λi h=>h.IsListIter it a i) where
 mem:=by simp
 obj:=λi h st b hb=>by
  have e:b=it:=by simpa using hb
  subst e;obtain⟨o,e,c,d⟩:=st;exact⟨o,e,λv z=>by rw[d]at z;cases z⟩
 keep:=λi h h' st k=>st.at λo e=>k it (by simp) o e
 item:=by
  intro X hP hw hK hc i Y s U H E I hf st hg;subst hP hw hK;obtain⟨xs,x,hq,hx⟩:=hg;obtain⟨its,rv,p,hz⟩:=I.list hq;obtain⟨u,hu,ru⟩:=rv.get hx;obtain⟨f0,f1,f2,f3,f4,f5⟩:=hf it (by simp);refine wpAny_pyNext_list_item st p.isList (x:=u) (by simpa using hu) λh' st' sb=>?_
  have I1:Inv X Y U H { s with heap:=h' }:=I.turned (t':=s.toks) (λb o hb e=>(sb.2 b hb).trans e) f0 f1 f3 f4 f5;obtain⟨o,e,c,d⟩:=id st';exact⟨u,rfl,Am (s:={ s with heap:=h' }) e c d (by decide) ⟨x,H,I1,ru,⟨rfl,λys hy=>by rw[I.k6 hy hq];exact hx⟩,st',λb hb=>(hf b hb).1⟩⟩
 done:=by
  intro X hP hw hK hc i Y s U H E I hf st hg;subst hP hw hK;obtain⟨xs,hq,hx⟩:=hg;obtain⟨its,rv,p,hz⟩:=I.list hq;obtain⟨f0,f1,f2,f3,f4,f5⟩:=hf it (by simp);have hl:=rv.length;exact wpAny_pyNext_list_end (I.ok.hd hc) st p.isList (by simp;omega) λh' eb=>⟨rfl,I.turned (t':=s.toks) (λb o hb e=>eb b o hb e) f0 f1 f3 f4 f5⟩
 self:=λ_ _ _ _ _ st h=>wpAny_pyIter_listiter st h
def rO {K:W.Frag}(a it:Addr):Turn P w K tg (Hr K a) [it] it (λi h=>h.IsTupleIter it a i) where
 mem:=by simp
 obj:=λi h st b hb=>by
  have e:b=it:=by simpa using hb
  subst e;obtain⟨o,e,c,d⟩:=st;exact⟨o,e,λv z=>by rw[d]at z;cases z⟩
 keep:=λi h h' st k=>st.at λo e=>k it (by simp) o e
 item:=by
  intro X hP hw hK hc i Y s U H E I hf st hg;subst hP hw hK;obtain⟨xs,x,hq,hx⟩:=hg;obtain⟨its,rv,p,hz⟩:=I.tuple hq;obtain⟨u,hu,ru⟩:=rv.get hx;obtain⟨f0,f1,f2,f3,f4,f5⟩:=hf it (by simp);refine wpAny_pyNext_tuple_item st (show s.heap.IsTuple a its.toArray from p) (x:=u) (by simpa using hu) λh' st' sb=>?_
  have I1:Inv X Y U H { s with heap:=h' }:=I.turned (t':=s.toks) (λb o hb e=>(sb.2 b hb).trans e) f0 f1 f3 f4 f5;obtain⟨o,e,c,d⟩:=id st';exact⟨u,rfl,Am (s:={ s with heap:=h' }) e c d (by decide) ⟨x,H,I1,ru,⟨rfl,λys hy=>by rw[I.iP hy hq];exact hx⟩,st',λb hb=>(hf b hb).1⟩⟩
 done:=by
  intro X hP hw hK hc i Y s U H E I hf st hg;subst hP hw hK;obtain⟨xs,hq,hx⟩:=hg;obtain⟨its,rv,p,hz⟩:=I.tuple hq;obtain⟨f0,f1,f2,f3,f4,f5⟩:=hf it (by simp);have hl:=rv.length;exact wpAny_pyNext_tuple_end (I.ok.hd hc) st (show s.heap.IsTuple a its.toArray from p) (by simp;omega) λh' eb=>⟨rfl,I.turned (t':=s.toks) (λb o hb e=>eb b o hb e) f0 f1 f3 f4 f5⟩
 self:=λ_ _ _ _ _ st h=>wpAny_pyIter_tupleiter st h
def sW {K:W.Frag}(it:Addr)(lo:Int)(n:Nat):Turn P w K tg (DW lo n) [it] it (λi h=>IsRangeIter h it (lo+(i:Nat)*1) ((n:Int)-(i:Nat)) 1) where
 mem:=by simp
 obj:=λi h st b hb=>by
  have e:b=it:=by simpa using hb
  subst e;exact⟨_,st,λv z=>by
   have z':Data.fields _=Data.cell v:=z;cases z'⟩
 keep:=λi h h' st k=>k it (by simp) _ st
 item:=by
  intro X hP hw hK hc i Y s U H E I hf st hg;subst hP hw hK;obtain⟨f0,f1,f2,f3,f4,f5⟩:=hf it (by simp);have W:=Walks.range (prog:=X.prog) (w:=X.w) (I.ok.hd hc) it lo 1 n;refine W.item i s _ _ hg st λv h' tk hv st' kk=>?_
  obtain⟨t,rfl⟩:=hv;have I1:Inv X Y U H { s with heap:=h',toks:=tk }:=I.turned (λb o hb e=>kk b o (by simpa using hb) e) f0 f1 f3 f4 f5;refine⟨_,rfl,Am (s:={ s with heap:=h',toks:=tk }) (n:="range_iterator") st' rfl rfl (by decide) ⟨.int (lo+i),H,I1,⟨t,?_⟩,⟨rfl,rfl⟩,st',λb hb=>(hf b hb).1⟩⟩;rw[Int.mul_one]
 done:=by
  intro X hP hw hK hc i Y s U H E I hf st hg;subst hP hw hK;obtain⟨f0,f1,f2,f3,f4,f5⟩:=hf it (by simp);exact wpAny_pyNext_range_end (I.ok.hd hc) st (by have:n<=i:=hg;omega) λh' eb=>⟨rfl,I.turned (t':=s.toks) (λb o hb e=>eb b o hb e) f0 f1 f3 f4 f5⟩
 self:=λ_ _ _ _ _ st h=>wpAny_pyIter_rangeiter st h
variable {pos:Pos}{fp:List Addr}{body:List Stmt}
section
variable {X:Cx}{tg:Expr}
def qg {R:It->Hp->Prop}{lo hi:Int}{t u v:Tok}{tk:Nat}(I:Inv X Y U H s)(h1: -(2 ^ 62)<=lo)(h2:lo<2 ^ 62)(h3: -(2 ^ 62)<=hi)(h4:hi<2 ^ 62)
  (q:R (DW lo (hi-lo).toNat) H):wpAny (model X.prog X.w) X.A (pyIter (.ref s.heap.objs.size)) (JL X Y U tg R) E { s with heap:=s.heap.push { cls:=.type "range",data:=.fields #[.int lo t,.int hi u,.int 1 v] },toks:=tk }:=by
 refine wpAny_pyIter_range (IsRange.new ..) (small_one h1 h2 h3 h4) ?_;have I1:Inv X Y U H { s with heap:=s.heap.push { cls:=.type "range",data:=.fields #[.int lo t,.int hi u,.int 1 v] },toks:=tk }:=I.kept λb o e=>ul _ e
 refine⟨(s.heap.push { cls:=.type "range",data:=.fields #[.int lo t,.int hi u,.int 1 v] }).objs.size,[(s.heap.push { cls:=.type "range",data:=.fields #[.int lo t,.int hi u,.int 1 v] }).objs.size],_,_,H,rfl,
  I1.kept (t':=tk) λb o e=>ul _ e,sW _ lo (hi-lo).toNat,?_,λb hb=>?_,q⟩
 .have e1:lo+((0:Nat):Int)*1=lo:=by simp
  have e2:(((hi-lo).toNat:Nat):Int)-((0:Nat):Int)=Builtin.Range.rangeSize lo hi 1:=by rw[rangeSize_one];split<;>omega
  show IsRangeIter _ _ (lo+((0:Nat):Int)*1) ((((hi-lo).toNat:Nat):Int)-((0:Nat):Int)) 1;rw[e1,e2];exact v6 _ rfl
 .have e:b=(s.heap.push { cls:=.type "range",data:=.fields #[.int lo t,.int hi u,.int 1 v] }).objs.size:=by simpa using hb
  subst e;exact I1.yu (re _) (I1.hok.fresh (re _))
abbrev IH (ta:TA):TI:=λU H R=>ta U H λvs H1=>∃ j:Int,vs=[.int j]/\ -(2 ^ 62)<=j/\j<2 ^ 62/\R (DW 0 j.toNat) H1
abbrev IV (ta:TA):TI:=λU H R=>ta U H λvs H1=>∃ i j:Int,vs=[.int i,.int j]/\(-(2 ^ 62)<=i/\i<2 ^ 62/\ -(2 ^ 62)<=j/\j<2 ^ 62)/\R (DW i (j-i).toNat) H1
def vR {a:Expr}{ta:TA}{p:Pos}(hg:Gl X "range") (hm:X.mg "range"=none) (ha:PA X [a] ta) (hs:bm [a] X.env=[(false,eval a X.env)]:=by rfl):PI X tg (.Call (.Name "range" p) [a] [] pos) (IH ta):=by
 intro Y s U H R I h;refine Call_ (dI I hg hm boot_range (PyProof.Rows.callWith_type1 (aB (ha pos Y s U H _ I h) λus s1 ⟨vs,H1,I1,r1,q1⟩=>?_) hs rfl));obtain⟨j,e,q1,q2,q⟩:=q1;subst e;cases r1 with
 |cons r rr=>
  cases rr;obtain⟨t,rfl⟩:=r;exact call_range_1 (qg I1 nofun nofun q1 q2 (by simpa using q))
def vi {a b:Expr}{ta:TA}{p:Pos}(hg:Gl X "range") (hm:X.mg "range"=none) (ha:PA X [a,b] ta) (hs:bm [a,b] X.env=[(false,eval a X.env),(false,eval b X.env)]:=by rfl) (hs2:bm [b] X.env=[(false,eval b X.env)]:=by rfl):
  PI X tg (.Call (.Name "range" p) [a,b] [] pos) (IV ta):=by
 intro Y s U H R I h;refine Call_ (dI I hg hm boot_range (PyProof.Rows.callWith_type1 (aB (ha pos Y s U H _ I h) λus s1 ⟨vs,H1,I1,r1,q1⟩=>?_) (by rw[hs,hs2]) (by rw[hs2];rfl)));obtain⟨i,j,e,⟨q1,q2,q3,q4⟩,q⟩:=q1;subst e;cases r1 with
 |cons r rr=>
  cases rr with
  |cons r' rr=>
   cases rr;obtain⟨t,rfl⟩:=r;obtain⟨t',rfl⟩:=r';exact call_range_2 (qg I1 q1 q2 q3 q4 q)
abbrev Ld (wi:TI)(g:TG)(tb:TS):TS:=λD U H=>wi U H λJ H1=>∃ W:Nat->Nat->St->Hp->Prop,(∃ m,W 0 m U H1)/\∀ i m U H,W i m U H->
 (J.stop i H/\D.nx U H)\/(J.go i H/\∃ N:St->Hp->Prop,(∀ σ' H',N σ' H'->∃ m',m'<m/\W (i+1) m' σ' H')/\∀ x H',J.yld i H x H'->g x U H' λσ2 H2=>tb { D with nx:=N,ct:=N,bk:=D.nx } σ2 H2)
abbrev oM (fp:List Addr)(h:Heap):List (Addr×Obj):=fp.filterMap λb=>(h.get? b).map λo=>(b,o)
def bX {o:Obj}(hb:b ∈ fp)(e:h.get? b=some o):(b,o) ∈ oM fp h:=List.mem_filterMap.mpr ⟨b,hb,by rw[e];rfl⟩
def vX {p:Addr×Obj}(hp:p ∈ oM fp h):p.1 ∈ fp/\h.get? p.1=some p.2:=by
 obtain⟨b,hb,e⟩:=List.mem_filterMap.mp hp;cases q:h.get? b with
 |none=>rw[q]at e;cases e
 |some o=>
  rw[q]at e;have e':(b,o)=p:=Option.some.inj e;subst e';exact⟨hb,q⟩
def Inv.pinned (I:Inv X Y U H s)(hf:∀ b ∈ fp,iY X Y H b) (ho:∀ b ∈ fp,∃ o,s.heap.get? b=some o/\∀ v,o.data≠.cell v):Inv X (Y++oM fp s.heap) U H s:=
 I.nJ λp hp=>(mem_append.mp hp).elim (λz=>I.pin p (im _ z)) λz=>by
  obtain⟨hb,e⟩:=vX z;obtain⟨f0,f1,f2,_⟩:=hf p.1 hb;obtain⟨o,e',d⟩:=ho p.1 hb;rw[e]at e';cases e';exact⟨e,f0,f1,f2,d⟩
def Inv.fq {pl:MD}(I:Inv X (Y++pl) U H s):Inv X Y U H s:=I.nJ λp hp=>I.pin p (im _ (mem_append_left _ hp))
def F0 {iter:Expr}{wi:TI}{g:TG}{tb:TS}(hp:PassesOwn (model X.prog X.w) X.A X.env X.xe)(hc:X.calm=true)(hi:PI X tg iter wi)(hg:PG X tg g)(hb:Dm X body tb)
  (hs:∀ x,foldedSetIterable iter X.env x=pure x:=by intro _;rfl):PS X (.For tg iter body [] pos) (Ld wi g tb):=by
 intro Y s U H D I h;refine wpAny_For (aB (hi Y s U H _ I h) λv s1 h1=>aB h1 λitv s2 h2=>?_) hs;obtain⟨it,fp,tn,J,H2,e,I2,T,pK,f2,W,⟨m0,w0⟩,turn⟩:=h2;subst e;have stat:∀ {H':Hp},(∀ b ∈ fp,H' b=none)->∀ b ∈ fp,iY X Y H' b:=λhn b hb=>⟨hn b hb,(f2 b hb).2⟩
 refine codeAny_forLoop_any (λn s'=>∃ i σ' H',Inv X Y σ' H' s'/\tn i s'.heap/\(∀ b ∈ fp,H' b=none)/\W i n σ' H') ?_ m0 ⟨0,U,H2,I2,pK,λb hb=>(f2 b hb).1,w0⟩;rintro n s3 ⟨i,σ3,H3,I3,st3,fr3,w3⟩;rcases turn i n σ3 H3 w3 with⟨stop,qn⟩|⟨go,N,hN,step⟩
 .refine wpAny_passesOwn hp (aB (T.done X rfl rfl rfl hc i Y s3 σ3 H3 X.xe I3 (stat fr3) st3 stop) λr s4 ⟨hr,I4⟩=>?_);subst hr;exact wpAny_execs_nil ⟨σ3,H3,I4,qn⟩
 .refine wpAny_passesOwn hp (aB (T.item X rfl rfl rfl hc i Y s3 σ3 H3 X.xe I3 (stat fr3) st3 go) λr s4 ⟨u,hr,h4⟩=>?_);subst hr;refine wpAny_passesOwn hp (aB h4 λ_ s5 ⟨x,H5,I5,r5,y5,st5,fr5⟩=>?_);have I5':=I5.pinned (stat fr5) (T.obj _ _ st5);refine wpAny_passesOwn hp (aB (hg _ s5 σ3 H5 x u _ I5' r5 (step x H5 y5)) λ_ s6 ⟨σ6,H6,I6,q6⟩=>?_);refine wpAny_passesOwn hp (aB (hb _ s6 σ6 H6 _ I6 q6) λf s7 q7=>?_);have again:∀ {σ7:St}{H7:Hp},Inv X (Y++oM fp s5.heap) σ7 H7 s7->N σ7 H7->∃ m,m<n/\∃ i σ' H',Inv X Y σ' H' s7/\tn i s7.heap/\(∀ b ∈ fp,H' b=none)/\W i m σ' H':=λ{σ7 H7} I7 n7=>by
   obtain⟨m',hm,w7⟩:=hN σ7 H7 n7;refine⟨m',hm,i+1,σ7,H7,I7.fq,T.keep _ _ _ st5 λb hb o e=>(I7.pin (b,o) (im _ (im _ (bX hb e)))).1,λb hb=>?_,w7⟩;obtain⟨o,e,d⟩:=T.obj _ _ st5 b hb;exact(I7.pin (b,o) (im _ (im _ (bX hb e)))).2.1
  cases f with
  |next=>obtain⟨σ7,H7,I7,n7⟩:=q7;exact again I7 n7
  |cont=>obtain⟨σ7,H7,I7,n7⟩:=q7;exact again I7 n7
  |brk=>obtain⟨σ7,H7,I7,q7⟩:=q7;exact⟨σ7,H7,I7.fq,q7⟩
  |ret v=>obtain⟨x7,σ7,H7,I7,r7,q7⟩:=q7;exact⟨x7,σ7,H7,I7.fq,r7,q7⟩
end
@[reducible]def R2:=V->V->Hp->VK->Prop
abbrev cR (X:Cx)(f:Value->Value->Sem Value)(r:R2):Prop:=
 ∀ (Y:MD) (s:Shared) (U:St) (H:Hp) (x y:V) (v u:Value) (Q:VK),Inv X Y U H s->RelV x v->RelV y u->r x y H Q->
  wpAny (model X.prog X.w) X.A (f v u) (EP X Y U Q) X.xe s
abbrev JH (X:Cx)(f:Value->Sem Value)(r:V->Hp->VK->Prop):Prop:=
 ∀ (Y:MD) (s:Shared) (U:St) (H:Hp) (x:V) (v:Value) (Q:VK),Inv X Y U H s->RelV x v->r x H Q->
  wpAny (model X.prog X.w) X.A (f v) (EP X Y U Q) X.xe s
abbrev cO (X:Cx)(f:Value)(r:List V->Hp->VK->Prop):Prop:=
 ∀ (Y:MD) (s:Shared) (U:St) (H:Hp) (xs:List V) (us:List Value) (Q:VK),Inv X Y U H s->Vals xs us->r xs H Q->
  wpAny (model X.prog X.w) X.A (call f us) (EP X Y U Q) X.xe s
abbrev J3 (X:Cx)(r:V->Hp->(Bool->Hp->Prop)->Prop):Prop:=
 ∀ (Y:MD) (s:Shared) (U:St) (H:Hp) (x:V) (v:Value) (Q:Bool->Hp->Prop),Inv X Y U H s->RelV x v->r x H Q->
  wpAny (model X.prog X.w) X.A (truthy v) (TP X Y U Q) X.xe s
abbrev JG (r:R2)(ta tb:TE):TE:=λU H Q=>ta U H λx H1=>tb U H1 λy H2=>r x y H2 Q
abbrev Mf (r:V->Hp->VK->Prop)(ta:TE):TE:=λU H Q=>ta U H λx H1=>r x H1 Q
abbrev rI (C:Int->Int->Prop)(g:Int->Int->V):R2:=λx y H Q=>∃ i j,x=.int i/\y=.int j/\C i j/\Q (g i j) H
abbrev AZ (g:Int->Int->V):R2:=λx y H Q=>∃ i j,x=.int i/\y=.int j/\Q (g i j) H
abbrev rU (g:Int->V):V->Hp->VK->Prop:=λx H Q=>∃ i,x=.int i/\Q (g i) H
variable {f:Value->Value->Sem Value}{r:R2}{g:Int->Int->Int}
section
variable {X:Cx}{a b c:Expr}{ta tb tc:TE}{pos:Pos}
def Fg (ha:PE X a ta)(hb:PE X b tb){R:V->V->Hp->Prop}(I:Inv X Y U H s)
  (h:ta U H λx H1=>tb U H1 λy H2=>R x y H2)
  (hf:∀ v u s2 x y H2,Inv X Y U H2 s2->RelV x v->RelV y u->R x y H2->wpAny (model X.prog X.w) X.A (f v u) Q X.xe s2):
  wpAny (model X.prog X.w) X.A (eval a X.env) (λv s₁=>wpAny (model X.prog X.w) X.A (eval b X.env) (λu s₂=>wpAny (model X.prog X.w) X.A (f v u) Q X.xe s₂) X.xe s₁) X.xe s:=by
 refine aB (ha Y s U H _ I h) λv s1 ⟨x,H1,I1,r1,q1⟩=>?_
 refine aB (hb Y s1 U H1 _ I1 q1) λu s2 ⟨y,H2,I2,r2,q2⟩=>?_
 exact hf v u s2 x y H2 I2 r1 r2 q2
def Jl {op:Operator}(ho:cR X (binaryOp op) r)(ha:PE X a ta)(hb:PE X b tb):PE X (.BinOp a op b pos) (JG r ta tb):=by
 intro Y s U H Q I h;exact wpAny_BinOp (Fg ha hb I h λv u s2 x y H2 I2 rx ry q=>ho Y s2 U H2 x y v u Q I2 rx ry q)
def Hx {op:UnaryOp}{r:V->Hp->VK->Prop}(ho:JH X (unaryOp op) r)(ha:PE X a ta):PE X (.UnaryOp op a pos) (Mf r ta):=by
 intro Y s U H Q I h;exact UnaryOp_ (aB (ha Y s U H _ I h) λv s1 ⟨x,H1,I1,r1,q1⟩=>ho Y s1 U H1 x v Q I1 r1 q1)
def JP {C:Int->Int->Prop}
  (rule:∀ (i j:Int) (t u:Tok) (s:Shared) (Q:MC) (E:MC),C i j->Q (.int (g i j) s.toks) { s with toks:=s.toks+1 }->wpAny (model X.prog X.w) X.A (f (.int i t) (.int j u)) Q E s):
  cR X f (rI C λi j=>.int (g i j)):=by
 intro Y s U H x y v u Q I rx ry h;obtain⟨i,j,rfl,rfl,hc,q⟩:=h;obtain⟨t,rfl⟩:=rx;obtain⟨t',rfl⟩:=ry;exact rule i j t t' s _ _ hc ⟨.int (g i j),H,I.tok _,⟨_,rfl⟩,q⟩
def HW 
  (rule:∀ (i j:Int) (t u:Tok) (s:Shared) (Q:MC) (E:MC),Q (.int (g i j) s.toks) { s with toks:=s.toks+1 }->wpAny (model X.prog X.w) X.A (f (.int i t) (.int j u)) Q E s):
  cR X f (AZ λi j=>.int (g i j)):=by
 intro Y s U H x y v u Q I rx ry h;obtain⟨i,j,rfl,rfl,q⟩:=h;obtain⟨t,rfl⟩:=rx;obtain⟨t',rfl⟩:=ry;exact rule i j t t' s _ _ ⟨.int (g i j),H,I.tok _,⟨_,rfl⟩,q⟩
def Bv {g:Int->Int->Bool}
  (rule:∀ (i j:Int) (t u:Tok) (s:Shared) (Q:MC) (E:MC),Q (.bool (g i j)) s->wpAny (model X.prog X.w) X.A (f (.int i t) (.int j u)) Q E s):
  cR X f (AZ λi j=>.bl (g i j)):=by
 intro Y s U H x y v u Q I rx ry h;obtain⟨i,j,rfl,rfl,q⟩:=h;obtain⟨t,rfl⟩:=rx;obtain⟨t',rfl⟩:=ry;exact rule i j t t' s _ _ ⟨.bl (g i j),H,I,rfl,q⟩
abbrev Kx (i j:Int):Prop:=0<j/\j<1073741824
abbrev BX (i j:Int):Prop:=0<=j/\j<=1000000/\i.natAbs<2 ^ 64
abbrev qz (i j:Int):Prop:=(-(2 ^ 64)<i/\i<2 ^ 64)\/(-(2 ^ 64)<j/\j<2 ^ 64)
def qz.ok {i j:Int}(h:qz i j):IntMulOk i j:=by
 rcases h with⟨h1,h2⟩|⟨h1,h2⟩
 .exact .of_left (intBits_le_64 h1 h2)
 .exact .of_right (intBits_le_64 h1 h2)
def FQ:cR X (binaryOp .Add) (AZ λi j=>.int (i+j)):=HW λ_ _ _ _ _ _ _ q=>add_int q
def Fn:cR X (binaryOp .Sub) (AZ λi j=>.int (i-j)):=HW λ_ _ _ _ _ _ _ q=>sub_int q
def GN:cR X (binaryOp .Mult) (rI qz λi j=>.int (i*j)):=JP λ_ _ _ _ _ _ _ hc q=>mul_int q hc.ok
def Cy:cR X (binaryOp .FloorDiv) (rI Kx λi j=>.int (i / j)):=JP λi j _ _ _ _ _ hc q=>by
 have h1:(0:Int)<j:=hc.1;have h2:j<1073741824:=hc.2;exact floordiv_int nofun (by rw[Int.fdiv_eq_ediv_of_nonneg i nofun];exact q) (.inl (PyProof.noPylong_small nofun))
def Ee:cR X (binaryOp .Mod) (rI (λ_ j=>0<j) λi j=>.int (i % j)):=JP λi j _ _ _ _ _ hc q=>by
 have h1:(0:Int)<j:=hc;exact mod_int' nofun (by rw[Int.fmod_eq_emod_of_nonneg i nofun];exact q)
def Ek:cR X (binaryOp .Pow) (rI BX λi j=>.int (i ^ j.toNat)):=JP λ_ _ _ _ _ _ _ hc q=>pow_int_small hc.1 hc.2.1 hc.2.2 q
def Mg {f:Value->Sem Value}{g:Int->Int}
  (rule:∀ (i:Int) (t:Tok) (s:Shared) (Q:MC) (E:MC),Q (.int (g i) s.toks) { s with toks:=s.toks+1 }->wpAny (model X.prog X.w) X.A (f (.int i t)) Q E s):
  JH X f (rU λi=>.int (g i)):=by
 intro Y s U H x v Q I rx h;obtain⟨i,rfl,q⟩:=h;obtain⟨t,rfl⟩:=rx;exact rule i t s _ _ ⟨.int (g i),H,I.tok _,⟨_,rfl⟩,q⟩
def Fv:JH X (unaryOp .USub) (rU λi=>.int (-i)):=Mg λ_ _ _ _ _ q=>neg_int q
end
variable {op:CmpOp}
section
variable {X:Cx}{a b c:Expr}{ta tb tc:TE}{pos:Pos}
def xW {Q:VK}{k k':Bool}(I:Inv X Y U H s)(q:Q (.bl k) H)(e:k=k'):EP X Y U Q (.bool k') s:=by
 subst e;exact⟨.bl k,H,I,rfl,q⟩
def Hn:cR X (compareOp .Lt) (AZ λi j=>.bl (decide (i<j))):=Bv λ_ _ _ _ _ _ _ q=>lt_int q
def Hm:cR X (compareOp .LtE) (AZ λi j=>.bl (decide (i<=j))):=Bv λ_ _ _ _ _ _ _ q=>le_int q
def Hv:cR X (compareOp .Gt) (AZ λi j=>.bl (decide (j<i))):=Bv λ_ _ _ _ _ _ _ q=>gt_int q
def IJ:cR X (compareOp .GtE) (AZ λi j=>.bl (decide (j<=i))):=Bv λ_ _ _ _ _ _ _ q=>ge_int q
def Eh:cR X (compareOp .Is) (λx y H Q=>y=.non/\Q (.bl (decide (x=.non))) H):=by
 intro Y s U H x y v u Q I rx ry h;obtain⟨rfl,q⟩:=h;cases ry;refine is_none_gen (xW I q ?_);cases x<;>first
  |(cases rx;rfl)
  |(obtain⟨t,rfl⟩:=rx;rfl)
def CD:cR X (compareOp .IsNot) (λx y H Q=>y=.non/\Q (.bl (!decide (x=.non))) H):=by
 intro Y s U H x y v u Q I rx ry h;obtain⟨rfl,q⟩:=h;cases ry;refine isnot_none_gen (xW I q ?_);cases x<;>first
  |(cases rx;rfl)
  |(obtain⟨t,rfl⟩:=rx;rfl)
def Bq (ho:cR X (compareOp op) r)(ha:PE X a ta)(hb:PE X b tb)(hm:behindInMarks op b=false):PE X (.Compare a [op] [b] pos) (JG r ta tb):=by
 intro Y s U H Q I h;exact wpAny_Compare1 (Fg ha hb I h λv u s2 x y H2 I2 rx ry q=>ho Y s2 U H2 x y v u Q I2 rx ry q) hm
abbrev Dz (t:TE):TT:=λU H Q=>t U H λx H'=>∃ k,x=.bl k/\Q k H'
def AH (ho:cR X (compareOp op) r)(ha:PE X a ta)(hb:PE X b tb)(hm:behindInMarks op b=false):PT X (.Compare a [op] [b] pos) (Dz (JG r ta tb)):=by
 intro Y s U H Q I h;refine wpAny_isTrue_Compare1 (aB (ha Y s U H _ I h) λv s1 ⟨x,H1,I1,r1,q1⟩=>aB (hb Y s1 U H1 _ I1 q1) λu s2 ⟨y,H2,I2,r2,q2⟩=>
  aB (ho Y s2 U H2 x y v u _ I2 r1 r2 q2) λc s3 ⟨z,H3,I3,r3,k,e,q3⟩=>?_) hm
 subst e;cases r3;exact bi ⟨H3,I3,q3⟩
abbrev xV (r r':R2)(ta tb tc:TE):TE:=λU H Q=>ta U H λx H1=>tb U H1 λy H2=>r x y H2 λz H3=>∃ k,z=.bl k/\
 (if k=true then tc U H3 λw' H4=>r' y w' H4 Q else Q (.bl false) H3)
def xZ {op':CmpOp}{r':R2}(ho:cR X (compareOp op) r)(ho':cR X (compareOp op') r')(ha:PE X a ta)(hb:PE X b tb)(hc:PE X c tc)
  (hm:lastMarks [op,op'] [b,c]=false:=by with_unfolding_all rfl):PE X (.Compare a [op,op'] [b,c] pos) (xV r r' ta tb tc):=by
 intro Y s U H Q I h;refine Compare_chain (aB (ha Y s U H _ I h) λv s1 ⟨x,H1,I1,r1,q1⟩=>chain_link (aB (hb Y s1 U H1 _ I1 q1) λu s2 ⟨y,H2,I2,r2,q2⟩=>
  aB (ho Y s2 U H2 x y v u _ I2 r1 r2 q2) λd s3 ⟨z,H3,I3,r3,k,e,q3⟩=>?_)) hm
 subst e;cases r3;refine bi ?_;cases k with
 |false=>exact ite_ff ⟨.bl false,H3,I3,rfl,q3⟩
 |true=>exact ite_tt (chain_last (aB (hc Y s3 U H3 _ I3 q3) λw' s4 ⟨z',H4,I4,r4,q4⟩=>ho' Y s4 U H4 y z' u w' Q I4 r2 r4 q4))
def xK {op':CmpOp}{r':R2}(ho:cR X (compareOp op) r)(ho':cR X (compareOp op') r')(ha:PE X a ta)(hb:PE X b tb)(hc:PE X c tc)
  (hm:lastMarks [op,op'] [b,c]=false:=by with_unfolding_all rfl):PT X (.Compare a [op,op'] [b,c] pos) (Dz (xV r r' ta tb tc)):=by
 intro Y s U H Q I h;refine isTrue_chain (aB (ha Y s U H _ I h) λv s1 ⟨x,H1,I1,r1,q1⟩=>test_link (aB (hb Y s1 U H1 _ I1 q1) λu s2 ⟨y,H2,I2,r2,q2⟩=>
  aB (ho Y s2 U H2 x y v u _ I2 r1 r2 q2) λd s3 ⟨z,H3,I3,r3,k,e,q3⟩=>?_)) hm
 subst e;cases r3;refine bi ?_;cases k with
 |false=>
  obtain⟨k',e',q'⟩:=q3;cases e';exact ite_ff ⟨H3,I3,q'⟩
 |true=>
  refine ite_tt (test_last (aB (hc Y s3 U H3 _ I3 q3) λw' s4 ⟨z',H4,I4,r4,q4⟩=>aB (ho' Y s4 U H4 y z' u w' _ I4 r2 r4 q4) λd' s5 ⟨z2,H5,I5,r5,k2,e2,q5⟩=>?_));subst e2;cases r5;exact bi ⟨H5,I5,q5⟩
abbrev AD (K:W.Frag)(x:V)(H:Hp)(k:Bool):Prop:=
 match x with
 | .non=>k=false
 | .bl b=>k=b
 | .int i=>k=(i != 0)
 | .str y=>y.length<=bn/\k=((y.length:Int) != 0)
 | .byt y=>y.size<=bn/\k=((y.size:Int) != 0)
 | .ref p=>(∃ xs,aU K H p xs/\k= !xs.isEmpty)\/(∃ xs,bc K H p xs/\k= !xs.isEmpty)\/∃ kvs,H p=some (.dK kvs)/\k= !kvs.isEmpty
 |_=>False
def tf {κ:Type}{kvs:List (κ×V)}{vs:List (κ×Value)}(r:KV kvs vs):(!vs.isEmpty)= !kvs.isEmpty:=by
 cases r<;>rfl
def kL {its:List Value}(r:Vals xs its):(!its.toArray.isEmpty)= !xs.isEmpty:=by
 cases r<;>simp
def f7:(bn:Nat)<2 ^ 63:=by rw[sizeLine_eq];decide
def Es:J3 X (λx H Q=>∃ k,AD X.K x H k/\Q k H):=by
 intro Y s U H x v Q I rx h;obtain⟨k,e,q⟩:=h;have hl:=f7;have hs:bn=16777216:=sizeLine_eq;cases x with
 |non=>
  cases rx;have e':k=false:=e;subst e';exact truthy_none ⟨H,I,q⟩
 |bl b=>
  cases rx;have e':k=b:=e;subst e';exact bi ⟨H,I,q⟩
 |int i=>
  obtain⟨t,rfl⟩:=rx;have e':k=(i != 0):=e;subst e';exact PySem.P.truthy_int ⟨H,I,q⟩
 |str y=>
  obtain⟨t,rfl⟩:=rx;obtain⟨hy,e'⟩:y.length<=bn/\k=((y.length:Int) != 0):=e;subst e';exact PySem.P.truthy_str nofun ⟨H,I.tok _,q⟩
 |byt y=>
  obtain⟨t,rfl⟩:=rx;obtain⟨hy,e'⟩:y.size<=bn/\k=((y.size:Int) != 0):=e;subst e';exact W.truthy_bytes nofun ⟨H,I.tok _,q⟩
 |ref p=>
  cases rx;have e':(∃ xs,aU X.K H p xs/\k= !xs.isEmpty)\/(∃ xs,bc X.K H p xs/\k= !xs.isEmpty)\/∃ kvs,H p=some (.dK kvs)/\k= !kvs.isEmpty:=e;rcases e' with⟨xs,hx,e'⟩|⟨xs,hx,e'⟩|⟨kvs,hx,e'⟩
  .subst e';obtain⟨its,r,pl,hz⟩:=I.list hx;have hlen:=r.length;exact wpAny_truthy_list pl.isList (by simp only[ii];omega) ⟨H,I.tok _,by rw[kL r];exact q⟩
  .subst e';obtain⟨its,r,pl,hz⟩:=I.tuple hx;have hlen:=r.length;exact truthy_tuple pl (by simp only[ii];omega) ⟨H,I.tok _,by rw[kL r];exact q⟩
  .subst e';obtain⟨hz,hS,vs,r,m⟩:kvs.length<=bn/\(p ==sysModules)=false/\∃ vs,KV kvs vs/\s.heap.DictOf (aL X.prog X.w) p vs:=I.hok p _ hx;have hlen:kvs.length=vs.length:=Paired.length r;exact wpAny_truthy_dict hS m nofun ⟨H,I.tok _,by rw[tf r];exact q⟩
 |_=>exact(show False from e).elim
def w6 (ha:PE X a ta)(he:∀ whole,isTrue a X.env whole=(do let v <-whole;standAt a.pos;holding [v] (truthy v))):
  PT X a (λU H Q=>ta U H λx H'=>∃ k,AD X.K x H' k/\Q k H'):=by
 intro Y s U H Q I h;exact isTrue_plain (aB (ha Y s U H _ I h) λv s1 ⟨x,H1,I1,r1,q1⟩=>Es Y s1 U H1 x v Q I1 r1 q1) (he _)
def si:cR X (binaryOp .Add) (λx y H Q=>∃ i j,x=.str i/\y=.str j/\i.length+j.length<=bn/\Q (.str (i++j)) H):=by
 intro Y s U H x y v u Q I rx ry h;obtain⟨i,j,rfl,rfl,hz,q⟩:=h;obtain⟨t,rfl⟩:=rx;obtain⟨t',rfl⟩:=ry;exact add_str (λt' tk=>⟨.str (i++j),H,I.tok _,⟨_,rfl⟩,q⟩) hz
def vals1 {x:V}(r:Vals [x] us):∃ u,us=[u]/\RelV x u:=by
 cases r with
 |cons r1 r2=>cases r2;exact⟨_,rfl,r1⟩
def vals2 {x y:V}(r:Vals [x,y] us):∃ u w',us=[u,w']/\RelV x u/\RelV y w':=by
 cases r with
 |cons r1 r2=>
  cases r2 with
  |cons r3 r4=>cases r4;exact⟨_,_,rfl,r1,r3⟩
def vS (hc:X.calm=true):cO X (.builtin "max") (λxs H Q=>∃ i j,xs=[.int i,.int j]/\Q (.int (if j>i then j else i)) H):=by
 intro Y s U H xs us Q I r h;obtain⟨i,j,rfl,q⟩:=h;obtain⟨u,w',rfl,⟨t,rfl⟩,⟨t',rfl⟩⟩:=vals2 r;refine max_two_ints (I.ok.hd hc) λh' tk k=>⟨_,H,I.kept k,?_,q⟩
 by_cases hj:j>i
 .rw[if_pos hj,if_pos hj];exact⟨_,rfl⟩
 .rw[if_neg hj,if_neg hj];exact⟨_,rfl⟩
def vC (hc:X.calm=true):cO X (.builtin "min") (λxs H Q=>∃ i j,xs=[.int i,.int j]/\Q (.int (if j<i then j else i)) H):=by
 intro Y s U H xs us Q I r h;obtain⟨i,j,rfl,q⟩:=h;obtain⟨u,w',rfl,⟨t,rfl⟩,⟨t',rfl⟩⟩:=vals2 r;refine min_two_ints (I.ok.hd hc) λh' tk k=>⟨_,H,I.kept k,?_,q⟩
 by_cases hj:j<i
 .rw[if_pos hj,if_pos hj];exact⟨_,rfl⟩
 .rw[if_neg hj,if_neg hj];exact⟨_,rfl⟩
def vZ:cO X (.type "int") (λxs H Q=>(∃ i,xs=[.int i]/\Q (.int i) H)\/∃ k,xs=[.bl k]/\Q (.int (if k then 1 else 0)) H):=by
 intro Y s U H xs us Q I r h;rcases h with⟨i,rfl,q⟩|⟨k,rfl,q⟩
 .obtain⟨u,rfl,t,rfl⟩:=vals1 r;exact call_int_int ⟨.int i,H,I,⟨_,rfl⟩,q⟩
 .obtain⟨u,rfl,r1⟩:=vals1 r;cases r1;exact call_int_bool ⟨.int (if k then 1 else 0),H,I.tok _,⟨_,rfl⟩,q⟩
def oY:cO X (.type "str") (λxs H Q=>∃ i,xs=[.int i]/\i.natAbs.log2<1920/\Q (.str (toString i)) H):=by
 intro Y s U H xs us Q I r h;obtain⟨i,rfl,hz,q⟩:=h;obtain⟨u,rfl,t,rfl⟩:=vals1 r;exact PySem.P.str_of_int hz ⟨.str _,H,I.tok _,⟨_,rfl⟩,q⟩
abbrev II (K:W.Frag)(x:V)(H:Hp)(n:Nat):Prop:=
 match x with
 | .str y=>y.length<=bn/\n=y.length
 | .byt y=>y.size<=bn/\n=y.size
 | .ref p=>(∃ xs,aU K H p xs/\n=xs.length)\/∃ xs,bc K H p xs/\n=xs.length
 |_=>False
def zH:cO X (.builtin "len") (λxs H Q=>∃ x n,xs=[x]/\II X.K x H n/\Q (.int n) H):=by
 intro Y s U H xs us Q I r h;obtain⟨x,n,rfl,e,q⟩:=h;obtain⟨u,rfl,rx⟩:=vals1 r;have hl:=f7;have hs:bn=16777216:=sizeLine_eq;cases x with
 |str y=>
  obtain⟨t,rfl⟩:=rx;obtain⟨hy,e'⟩:y.length<=bn/\n=y.length:=e;subst e';exact len_str nofun ⟨.int _,H,I.tok _,⟨_,rfl⟩,q⟩
 |byt y=>
  obtain⟨t,rfl⟩:=rx;obtain⟨hy,e'⟩:y.size<=bn/\n=y.size:=e;subst e';exact W.len_bytes nofun ⟨.int _,H,I.tok _,⟨_,rfl⟩,q⟩
 |ref p=>
  cases rx;have e':(∃ xs,aU X.K H p xs/\n=xs.length)\/∃ xs,bc X.K H p xs/\n=xs.length:=e;rcases e' with⟨xs,hx,e'⟩|⟨xs,hx,e'⟩
  .subst e';obtain⟨its,r',pl,hz⟩:=I.list hx;have hlen:=r'.length;exact Calls.call_len_list pl.isList (by simp only[ii];omega) ⟨.int xs.length,H,I.tok _,⟨_,by simp only[ii];rw[hlen]⟩,q⟩
  .subst e';obtain⟨its,r',pl,hz⟩:=I.tuple hx;have hlen:=r'.length;exact len_tuple pl (by simp only[ii];omega) ⟨.int xs.length,H,I.tok _,⟨_,by simp only[ii];rw[hlen]⟩,q⟩
 |_=>exact(show False from e).elim
end
structure tP (h:Heap) (x dx C:Addr) (mA:ME):Prop where
 obj:h.get? x=some (W.instObj C dx)
 ns:h.Ns1 dx mA
 ne:dx≠x
variable {mA:ME}
def iN {dx:Addr}(n:h.Ns1 dx mA):∃ od,h.get? dx=some od/\∀ name,W.lookIn name od=some (mA name):=by
 obtain⟨o,es,ep,ho,hd,hk,_,hm⟩:=n;refine⟨o,ho,λname=>?_⟩;have e:=hm name;unfold nsFind findBy at e;rw[<-Array.find?_toList]at e;unfold W.lookIn;rw[hd];dsimp only
 split
 .rename_i y q;rw[q]at e;exact congrArg some e
 .rename_i q;rw[q]at e;have a:es.toList.any (·.refKey)=false:=by
   rw[any_eq_false];intro y hy;obtain⟨z,t,hkey⟩:=hk y (Array.mem_toList_iff.mp hy);simp[DictEntry.refKey,hkey]
  have a':¬ es.toList.any (·.refKey)=true:=by rw[a];exact Bool.false_ne_true
  rw[if_neg a'];exact congrArg some e
variable {C:Addr}
def tP.look {x dx:Addr}(I:tP h x dx C mA):∃ od,W.InstAt h x (W.instObj C dx) C (some od)/\∀ name,W.lookIn name od=some (mA name):=
 let⟨od,ho,hl⟩:=iN I.ns
 ⟨od,⟨I.obj,rfl,rfl,ho⟩,hl⟩
variable {pl:Sem Bool}{kw:List (Str×Value)}
section
variable {prog:Program}{w:World}{A:Around}{E:MC}{s:Shared}{K:W.Frag}{x dx C f:Addr}{mA:ME}{name:Str}{v:Value}
def get_map {expr:Bool}(X:K.In s.heap)(I:tP s.heap x dx C mA)(hg:W.plainGet K C name=true)(hh:W.hasDictIn K C=true)
  (ha:W.findIn K (.ref C) name=some none) (hv:mA name=some v) (hv':W.handedIn v=true) (h:Q v { s with toks:=s.toks+1 }):
  wpAny (model prog w) A (getAttr (.ref x) name expr) Q E s:=by
 obtain⟨od,J,hl⟩:=I.look;exact W.get_value X J (W.plainGet_of hg).1 (W.findObj_own hh ha rfl (by rw[hl,hv])) hv' h
def zw {Q:Value×List Value->Shared->Prop}(X:K.In s.heap)(I:tP s.heap x dx C mA)(hg:W.plainGet K C name=true)
  (hf:W.findIn K (.ref C) name=some (some (.ref f))) (ht:W.isFn K (.ref f)=true) (hv:mA name=none) (h:Q (.ref f,[.ref x]) s):
  wpAny (model prog w) A (getMethod (.ref x) name pl) Q E s:=by
 obtain⟨od,J,hl⟩:=I.look;exact W.method_fn X J (W.plainGet_of hg).1 (W.plainGet_of hg).2 hf (beq_iff_eq.mp ht) (by show(W.lookIn name od).map (·.isSome)=some false;rw[hl,hv];rfl) h
def fD {ns:List Str}{Q:MB}(X:K.In s.heap)(I:tP s.heap x dx C mA)
  (hs:W.findIn K (.ref C) "__setattr__"=some (some (.builtin "object.__setattr__"))) (hp:W.plainOver K C=true) (ht:W.takerIn K C name=some none) (hh:W.hasDictIn K C=true)
  (hw:PySem.Within mA ns) (hsz:ns.length<=bn)
  (h:∀ h',tP h' x dx C (λy=>if y=name then some v else mA y)->Heap.SameBut dx s.heap h'->Q () { s with heap:=h',toks:=s.toks+2 }):
  wpAny (model prog w) A (setAttr (.ref x) name v) Q E s:=by
 obtain⟨od,J,hl⟩:=I.look;refine W.set_plain X J hs (W.osa_open (s:={ s with toks:=s.toks+1 }) (r:=none) X J hp ht λb=>?_);obtain⟨cd,hc,hd'⟩:=W.any_some hh;have hx:s.heap.get? x=some ⟨.ref C,some dx,.plain,#[]⟩:=I.obj;refine ad (am (ad (ad (wpAny_loadPart hx (ad (W.Looks.here (s:={ s with toks:=s.toks+1 }) (W.looks_clsIn X hc) ?_))))));rw[hd'];refine am (a:=some dx) (ad (am (ad ?_)));refine wpAny_nsSet1 (s:={ s with toks:=s.toks+1 }) I.ns λh' hn2 hs2=>?_
 obtain⟨oD,esD,epD,hoD,hdD,hcD⟩:=hn2.count (PySem.Within.cons name v hw);refine ad (wpAny_lookBehind hoD (by rw[hdD];exact pastItsLine_dict (Nat.le_trans hcD (by rw[length_cons];omega))) ?_);exact am (h _ ⟨(hs2.2 _ (Ne.symm I.ne)).trans I.obj,hn2,I.ne⟩ hs2)
def xa {R:Result->Shared->Prop}{vs:List Value}(X:K.In s.heap)(hm:W.makesIn K C=true)
  (hi:W.findIn K (.ref C) "__init__"=some (some (.ref f))) (hf:W.typeIn K (.ref f)=some (.type "function"))
  (h:codeAny (model prog w) (A.under (.builtin "type.__call__" ⟨.ref C::vs,kw⟩)) (.call (.ref f) ⟨.ref (s.heap.objs.size+1)::vs,kw⟩) (W.InitBack (s.heap.objs.size+1) R)
   { s with heap:=(s.heap.push W.emptyDict).push (W.instObj C s.heap.objs.size) }):
  codeAny (model prog w) A (.call (.ref C) ⟨vs,kw⟩) R s:=by
 obtain⟨hh,g,d,t,os⟩:=s;exact W.make_core (W.makes_of X hm) (W.looks_findIn X hi) (λself=>W.bind_fn X self hf) (.inl rfl) h
end
abbrev cS (f:Str)(v:V):List (Str×V)->List (Str×V)
 | []=>[(f,v)]
 |(g,x)::r=>if g=f then(g,v)::r else(g,x)::cS f v r
def eZ (f g:Str)(v:V):∀ fs:List (Str×V),(cS f v fs).lookup g=if g=f then some v else fs.lookup g
 | []=>by
  show List.lookup g [(f,v)]=_
  by_cases h:g=f
  .have hb:(g ==f)=true:=beq_iff_eq.mpr h;simp only[List.lookup,hb,if_pos h]
  .have hb:(g ==f)=false:=beq_eq_false_iff_ne.mpr h;simp only[List.lookup,hb,if_neg h]
 |(k,x)::r=>by
  have ih:=eZ f g v r;rw[show cS f v ((k,x)::r)=(if k=f then(k,v)::r else(k,x)::cS f v r) from rfl]
  by_cases hk:k=f
  .rw[if_pos hk]
   by_cases h:g=k
   .have hb:(g ==k)=true:=beq_iff_eq.mpr h;simp only[List.lookup,hb,if_pos (h.trans hk)]
   .have hb:(g ==k)=false:=beq_eq_false_iff_ne.mpr h;simp only[List.lookup,hb,if_neg (λe:g=f=>h (e.trans hk.symm))]
  .rw[if_neg hk]
   by_cases h:g=k
   .have hb:(g ==k)=true:=beq_iff_eq.mpr h;simp only[List.lookup,hb,if_neg (λe:g=f=>hk (h.symm.trans e))]
   .have hb:(g ==k)=false:=beq_eq_false_iff_ne.mpr h;simp only[List.lookup,hb];exact ih
def di (f:Str)(v:V):∀ fs:List (Str×V),f ∈ (cS f v fs).map (·.1)/\∀ g,g ∈ fs.map (·.1)->g ∈ (cS f v fs).map (·.1)
 | []=>⟨by simp[cS],λg h=>by simp at h⟩
 |(k,x)::r=>by
  obtain⟨i1,i2⟩:=di f v r;rw[show cS f v ((k,x)::r)=(if k=f then(k,v)::r else(k,x)::cS f v r) from rfl]
  by_cases hk:k=f
  .rw[if_pos hk];subst hk;exact⟨by simp,λg h=>by simpa using h⟩
  .rw[if_neg hk];refine⟨?_,λg h=>?_⟩
   .rw[map_cons];exact dL _ i1
   .rw[map_cons]at h⊢;rcases nb.mp h with e|e
    .exact nb.mpr (.inl e)
    .exact dL _ (i2 g e)
def eA (f:Str)(v:V):∀ fs:List (Str×V),(cS f v fs).length<=fs.length+1
 | []=>by simp[cS]
 |(k,x)::r=>by
  have ih:=eA f v r;rw[show cS f v ((k,x)::r)=(if k=f then(k,v)::r else(k,x)::cS f v r) from rfl]
  by_cases hk:k=f
  .rw[if_pos hk,length_cons,length_cons];omega
  .rw[if_neg hk,length_cons,length_cons];omega
def dr.some_of {o:Option Value}(r:dr (some v) o):∃ u,o=some u/\RelV v u:=by
 cases o with
 |none=>exact(show False from r).elim
 |some u=>exact⟨u,rfl,r⟩
def dr.none_of {o:Option Value}(r:dr none o):o=none:=by
 cases o with
 |none=>rfl
 |some u=>exact(show False from r).elim
def mV (r:RelV v u):W.handedIn u=true:=by
 cases v with
 |non=>cases(show u=Value.none from r);rfl
 |bl b=>cases(show u=Value.bool b from r);rfl
 |int i=>obtain⟨t,e⟩:=(show ∃ t,u=Value.int i t from r);cases e;rfl
 |str x=>obtain⟨t,e⟩:=(show ∃ t,u=Value.str x t from r);cases e;rfl
 |byt b=>obtain⟨t,e⟩:=(show ∃ t,u=Value.bytes b t from r);cases e;rfl
 |flt b=>obtain⟨t,e⟩:=(show ∃ t,u=Value.float b t from r);cases e;rfl
 |ref a=>cases(show u=Value.ref a from r);rfl
 |ty n=>cases(show u=Value.type n from r);rfl
section
variable {P:Program}{w:World}{H H':Hp}{h h':Heap}{a C dx:Addr}{fs fs':List (Str×V)}
def ie (hok:gb P w H h)(e:H a=some (.ins C dx fs)):∃ mA,tP h a dx C mA/\(∀ f,dr (fs.lookup f) (mA f))/\PySem.Within mA (fs.map (·.1))/\fs.length<=1000/\H dx=some (.own a):=by
 obtain⟨d,z,ne,ob,mA,n,r,q⟩:=(show aS P w H h a (.ins C dx fs) from hok a _ e);exact⟨mA,⟨ob,n,ne⟩,r,q,z,d⟩
end
structure B5 (K:W.Frag) (C:Addr):Prop where
 pg:W.plainGet K C Str.empty=true
 hd:W.hasDictIn K C=true
 po:W.plainOver K C=true
 sa:W.findIn K (.ref C) "__setattr__"=some (some (.builtin "object.__setattr__"))
def B5.get {K:W.Frag}(c:B5 K C)(f:Str):W.plainGet K C f=true:=c.pg
abbrev fm (K:W.Frag)(C:Addr)(f:Str):Prop:=W.findIn K (.ref C) f=some none
def fm.IY {K:W.Frag}{f:Str}(n:fm K C f):W.takerIn K C f=some none:=by
 unfold W.takerIn;rw[show W.findIn K (.ref C) f=some none from n]
 rfl
structure Meth (K:W.Frag) (C:Addr) (m:Str) (f:Addr):Prop where
 at_:W.findIn K (.ref C) m=some (some (.ref f))
 fn:W.isFn K (.ref f)=true
 kp:W.keepIn K (.ref f)=true
section
variable {X:Cx}{Y:MD}{U:St}{H:Hp}{s:Shared}{a C dx:Addr}{fs:List (Str×V)}{f:Str}{v:V}{A:Around}{E:MC}
def tw {b:Bool}(I:Inv X Y U H s)(e:H a=some (.ins C dx fs))(c:B5 X.K C)(n:fm X.K C f)(l:fs.lookup f=some v)
  (h:∀ u s',Inv X Y U H s'->RelV v u->Q u s'):wpAny (model X.prog X.w) A (getAttr (.ref a) f b) Q E s:=by
 obtain⟨mA,O,r,_,_,_⟩:=ie I.hok e;obtain⟨u,hu,ru⟩:=dr.some_of (v:=v) (o:=mA f) (by rw[<-l];exact r f);exact get_map I.b9 O (c.get f) c.hd n hu (mV ru) (h u _ (I.tok _) ru)
def sG {m:Str}{g:Addr}{Q:Value×List Value->Shared->Prop}(I:Inv X Y U H s)(e:H a=some (.ins C dx fs))(c:B5 X.K C)(k:Meth X.K C m g)(l:fs.lookup m=none)
  (h:Q (.ref g,[.ref a]) s):wpAny (model X.prog X.w) A (getMethod (.ref a) m pl) Q E s:=by
 obtain⟨mA,O,r,_,_,_⟩:=ie I.hok e;have hn:mA m=none:=dr.none_of (by rw[<-l];exact r m);exact zw I.b9 O (c.get m) k.at_ k.fn hn h
def tG {y:V}{Q:MB}(I:Inv X Y U H s)(e:H a=some (.ins C dx fs))(c:B5 X.K C)(n:fm X.K C f)(hl:fs.length<1000)(ry:RelV y u)
  (h:∀ s',Inv X Y U (upd H a (.ins C dx (cS f y fs))) s'->Q () s'):wpAny (model X.prog X.w) A (setAttr (.ref a) f u) Q E s:=by
 obtain⟨mA,O,r,wi,_,ho⟩:=ie I.hok e;have hz:(fs.map (·.1)).length<=bn:=by rw[ce,sizeLine_eq];omega
 refine fD I.b9 O c.sa c.po n.IY c.hd wi hz λh' O' sb=>h _ ?_
 have hd:∃ o,h'.get? dx=some o:=let⟨o,_,_,e',_⟩:=O'.ns;⟨o,e'⟩;refine I.write (x:=a) (e:=dx) (by rw[e];exact True.intro) (.inr ho) (λb q hb z=>(sb.2 b hb).trans z) hd ?_;refine⟨by rw[ai O.ne];exact ho,?_,O.ne,O'.obj,_,O'.ns,λg=>?_,λg hg=>?_⟩
 .have:=eA f y fs;omega
 .show dr ((cS f y fs).lookup g) (if g=f then some u else mA g);rw[eZ]
  by_cases q:g=f
  .rw[if_pos q,if_pos q];exact ry
  .rw[if_neg q,if_neg q];exact r g
 .by_cases q:g=f
  .rw[q];exact(di f y fs).1
  .refine(di f y fs).2 g (wi g λz=>hg ?_);show(if g=f then some u else mA g)=none;rw[if_neg q];exact z
def Inv.made (I:Inv X Y U H s):Inv X Y U (upd (upd H s.heap.objs.size (.own (s.heap.objs.size+1))) (s.heap.objs.size+1) (.ins C s.heap.objs.size []))
  { s with heap:=(s.heap.push W.emptyDict).push (W.instObj C s.heap.objs.size) }:=by
 have e1:(s.heap.push W.emptyDict).get? s.heap.objs.size=some W.emptyDict:=v6 s.heap rfl;have e2:((s.heap.push W.emptyDict).push (W.instObj C s.heap.objs.size)).get? (s.heap.objs.size+1)=some (W.instObj C s.heap.objs.size):=by
  have:=v6 (s.heap.push W.emptyDict) (o:=W.instObj C s.heap.objs.size) rfl
  rwa [Heap.size_push]at this
 have e3:(s.heap.push W.emptyDict).Ns s.heap.objs.size (λ_=>none):=⟨W.emptyDict,#[],_,e1,rfl,(λe he=>absurd he (by simp)),λ_=>rfl⟩;have I1:=I.laid (a:=s.heap.objs.size) (o:=.own (s.heap.objs.size+1)) (h':=s.heap.push W.emptyDict) (t':=s.toks) (λb u q=>ul _ q) (re _) ⟨_,e1⟩;refine I1.laid (a:=s.heap.objs.size+1) (o:=.ins C s.heap.objs.size []) (t':=s.toks) (λb u q=>ul _ q) (Nat.le_of_eq (Heap.size_push _ _)) ?_;have ne:s.heap.objs.size≠s.heap.objs.size+1:=pi (Nat.lt_succ_self _);refine⟨by rw[ai ne,az],Nat.zero_le _,ne,e2,λ_=>none,(Heap.Ns1.of_empty e3).at λo q=>ul _ q,λ_=>True.intro,λy hy=>absurd rfl hy⟩
def Cp {prog:Program}{env:Env}(hb:attributeBase e f env (eval e env)=eval e env)
  (h:wpAny (model prog w) A (eval e env) (λo s₁=>wpAny (model prog w) A (getAttr o f true) Q E s₁) E s):wpAny (model prog w) A (eval (.Attribute e f pos) env) Q E s:=
 Attribute_any_ h (by rw[arm_eval_Attribute,hb])
end
section
variable {X:Cx}{o e value:Expr}{f:Str}{pos pos' tpos:Pos}{ta tv:TE}
end
section
variable {X:Cx}{Y:MD}{U:St}{H:Hp}{s:Shared}{A:Around}{E:MC}{Q:MC}{c:Value}{b:Bool}
inductive iL (K:W.Frag) (H:Hp):V->Value->Prop where
 |non:iL K H .non (.type "NoneType")
 |bl (x:Bool):iL K H (.bl x) (.type "bool")
 |int (i:Int):iL K H (.int i) (.type "int")
 |str (x:Str):iL K H (.str x) (.type "str")
 |flt (x:UInt64):iL K H (.flt x) (.type "float")
 |lst {a:Addr}{xs:List V}(e:H a=some (.lst xs)):iL K H (.ref a) (.type "list")
 |frz {a:Addr}{o:Obj}{xs:List V}(e:H a=some (.frz o (.lst xs))):iL K H (.ref a) (.type "list")
 |tup {a:Addr}{xs:List V}(e:H a=some (.tup xs)):iL K H (.ref a) (.type "tuple")
 |dK {a:Addr}{kvs:List (Key×V)}(e:H a=some (.dK kvs)):iL K H (.ref a) (.type "dict")
 |dT {a:Addr}{kvs:List (List Key×V)}(e:H a=some (.dT kvs)):iL K H (.ref a) (.type "dict")
 |ins {a C dx:Addr}{fs:List (Str×V)}(e:H a=some (.ins C dx fs)) (cl:B5 K C) (ha:W.findIn K (.ref C) "__class__"=some (some (.builtin "object.__class__")))
   (hn:W.specialIn K (.builtin "object.__class__") "__get__"=some (some (.builtin "getset_descriptor.__get__"))) (htk:W.takesIn K (.builtin "object.__class__")=some true)
   (hm:W.mroIn K C (.type "object")=some true):iL K H (.ref a) (.ref C)
def iT {x:V}{t:Value}(I:Inv X Y U H s)(rx:RelV x u)(ty:iL X.K H x t)(e:W.kitOne X.K t c=some b)(h:∀ tk,Q (.bool b) { s with toks:=tk }):
  wpAny (model X.prog X.w) A (call (.builtin "isinstance") [u,c]) Q E s:=by
 cases ty with
 |non=>cases(show u=Value.none from rx);exact W.kia_one W.kitx_none I.b9 True.intro e (λz=>nomatch z) h
 |bl y=>cases(show u=Value.bool y from rx);exact W.kia_one W.kitx_bool I.b9 True.intro e (λz=>nomatch z) h
 |int i=>obtain⟨t,q⟩:=(show ∃ t,u=Value.int i t from rx);cases q;exact W.kia_one W.kitx_int I.b9 True.intro e (λz=>nomatch z) h
 |str y=>obtain⟨t,q⟩:=(show ∃ t,u=Value.str y t from rx);cases q;exact W.kia_one W.kitx_str I.b9 True.intro e (λz=>nomatch z) h
 |flt y=>obtain⟨t,q⟩:=(show ∃ t,u=Value.float y t from rx);cases q;exact W.kia_one W.kitx_float I.b9 True.intro e (λz=>nomatch z) h
 | @lst a xs ea=>
  cases(show u=Value.ref a from rx);obtain⟨_,_,n,_,h1⟩:=(show aS X.prog X.w H s.heap a (.lst xs) from I.hok a _ ea);exact W.kia_one W.kitx_list I.b9 ⟨_,h1,rfl⟩ e (λz=>nomatch z) h
 | @frz a ob xs ea=>
  cases(show u=Value.ref a from rx);obtain⟨_,_,_,n,_,h1⟩:=(show aS X.prog X.w H s.heap a (.frz ob (.lst xs)) from I.hok a _ ea);exact W.kia_one W.kitx_list I.b9 ⟨_,h1,rfl⟩ e (λz=>nomatch z) h
 | @tup a xs ea=>
  cases(show u=Value.ref a from rx);obtain⟨_,_,_,p⟩:=(show aS X.prog X.w H s.heap a (.tup xs) from I.hok a _ ea);obtain⟨o,h1,h2,_⟩:=p;exact W.kia_one W.kitx_tuple I.b9 ⟨o,h1,h2⟩ e (λz=>nomatch z) h
 | @dK a kvs ea=>
  cases(show u=Value.ref a from rx);obtain⟨_,_,vs,_,p⟩:=(show aS X.prog X.w H s.heap a (.dK kvs) from I.hok a _ ea);obtain⟨o,es,ep,h1,h2,_⟩:=p;exact W.kia_one W.kitx_dict I.b9 ⟨o,h1,h2.1⟩ e (λz=>nomatch z) h
 | @dT a kvs ea=>
  cases(show u=Value.ref a from rx);obtain⟨_,_,xs,_,o,es,ep,h1,h2,_⟩:=(show aS X.prog X.w H s.heap a (.dT kvs) from I.hok a _ ea);exact W.kia_one W.kitx_dict I.b9 ⟨o,h1,h2.1⟩ e (λz=>nomatch z) h
 | @ins a C dx fs ea cl ha hn htk hm=>
  cases(show u=Value.ref a from rx);obtain⟨mA,O,_⟩:=ie I.hok ea;obtain⟨od,J,_⟩:=O.look;exact W.kia_one (W.kitx_own (cl.get _) cl.hd ha hn htk hm) I.b9 J e (λz=>nomatch z) h
end
structure bZ (k:Nat) (A:Around):Prop where
 hd:A.handled=none
 dp:A.depth+3*k+5<recursionLimit
 un:A.units+16*k+200<cLine
def bZ.mono {j:Nat}(r:bZ k A)(h:j<=k):bZ j A:=⟨r.hd,by have:=r.dp;omega,by have:=r.un;omega⟩
def bZ.deeper (r:bZ (k+1) A)(env:Env):bZ k (A.deeper env):=
 ⟨r.hd,by have:=r.dp;show A.depth+1+3*k+5<_;omega,by have:=r.un;show A.units+3+16*k+200<_;omega⟩
def sN:(A.under (.builtin "type.__call__" ⟨.ref C::us,kw⟩)).depth=A.depth+1:=by
 first|rfl|simp[Around.under,Code.weight,Code.isCreation,Code.isGuard,Code.isCaller,Code.frames,Code.isFrame,guardIds]
def tU:(A.under (.builtin "type.__call__" ⟨.ref C::us,kw⟩)).units=A.units+1:=by
 first|rfl|simp[Around.under,Code.cUnits,Code.frames,Code.isFrame]
def bZ.make (r:bZ (k+1) A)(C:Addr)(us:List Value)(kw:List (Str×Value)):bZ k (A.under (.builtin "type.__call__" ⟨.ref C::us,kw⟩)):=
 ⟨r.hd,by have:=r.dp;rw[sN];omega,by have:=r.un;rw[tU];omega⟩
def bZ.depth (r:bZ k A):A.depth<recursionLimit:=by have:=r.dp;omega
abbrev AJ:TA:=λ_ H Q=>Q [] H
abbrev DP (ta:TE)(tr:TA):TA:=λU H Q=>ta U H λx H1=>tr U H1 λxs H2=>Q (x::xs) H2
section
variable {X:Cx}{e:Expr}{es:List Expr}{te:TE}{t:TA}{pos:Pos}
def gp:PA X [] AJ:=λ_ _ _ _ H Q I h=>Calls.spliced_nil ⟨[],H,I,.nil,h⟩
def Df (ha:PE X e te)(hr:PA X es t)(hs:bm (e::es) X.env=(false,eval e X.env)::bm es X.env:=by rfl):PA X (e::es) (DP te t):=by
 intro pos Y s U H Q I h;rw[hs];show wpAny _ _ (spliced ((false,eval e X.env)::backTo pos (bm es X.env))) _ _ s;refine Calls.spliced_cons (aB (ha Y s U H _ I h) λu s1 ⟨x,H1,I1,r1,q1⟩=>?_);exact aB (hr pos Y s1 U H1 _ I1 q1) λus s2 ⟨xs,H2,I2,r2,q2⟩=>⟨x::xs,H2,I2,.cons r1 r2,q2⟩
abbrev K8 (t:TA):TE:=λU H Q=>t U H λxs H1=>xs.length<=bn/\∀ p,H1 p=none->Q (.ref p) (upd H1 p (.tup xs))
abbrev KP (t:TA):TE:=λU H Q=>t U H λxs H1=>xs.length<=bn/\∀ p,H1 p=none->Q (.ref p) (upd H1 p (.lst xs))
def GI {x1} (h:PA X es t):PE X (.Tuple es x1 pos) (K8 t):=by
 intro Y s U H Q I hq;refine wpAny_Tuple_spliced (aB (h pos Y s U H _ I hq) λus s1 ⟨xs,H1,I1,r,z,q⟩=>⟨by rw[<-r.length];exact z,?_⟩);have hf:H1 s1.heap.objs.size=none:=I1.hok.fresh (re _);refine⟨.ref s1.heap.objs.size,upd H1 s1.heap.objs.size (.tup xs),I1.laid (t':=s1.toks) (λb u e=>ul _ e) (re _) ?_,rfl,q _ hf⟩;exact⟨z,us,r,⟨_,v6 _ rfl,rfl,_,rfl⟩⟩
def Fq (h:PA X es t):PE X (.List es pos) (KP t):=by
 intro Y s U H Q I hq;refine wpAny_List_spliced (aB (h pos Y s U H _ I hq) λus s1 ⟨xs,H1,I1,r,z,q⟩=>⟨by rw[<-r.length];exact z,?_⟩);have hf:H1 s1.heap.objs.size=none:=I1.hok.fresh (re _);refine⟨.ref s1.heap.objs.size,upd H1 s1.heap.objs.size (.lst xs),I1.laid (t':=s1.toks) (λb u e=>ul _ e) (re _) ?_,rfl,q _ hf⟩;exact⟨z,us,0,r,v6 _ rfl⟩
end
@[reducible]def Sp:=List V->Hp->VK->XK->Prop
@[reducible]def tW:=List Env->Hp->Shared->XK->Value->Shared->Prop
structure sD (P:Program) (w:World) (K:W.Frag) (mg:ME) (base:Heap) (A:Around) (outer:List Env) (s:Shared) (H:Hp):Prop where
 frames:A.frames=some outer
 mod:Mod K mg base
 bs:∀ b o,base.get? b=some o->s.heap.get? b=some o/\H b=none
 bsz:base.objs.size<=s.heap.objs.size
 jM:s.heap.FunFrames base outer
 frf:∀ b ∈ oA outer,H b=none
 hok:gb P w H s.heap
 bare:AllBare s.gens
abbrev CE (outer:List Env)(P:Program)(w:World)(H:Hp)(s:Shared)(Q:VK)(u:Value)(s':Shared):Prop:=
 ∃ v H',s'.os=s.os/\AllBare s'.gens/\Un (oA outer) [] H H' s.heap s'.heap/\gb P w H' s'.heap/\RelV v u/\Q v H'
abbrev CR (CX:tW)(outer:List Env)(P:Program)(w:World)(H:Hp)(s:Shared)(Q:VK)(E:XK)(r:Result)(s':Shared):Prop:=
 match r with
 | .ok (.ret u)=>CE outer P w H s Q u s'
 | .ok _=>False
 | .error e=>CX outer H s E e s'
structure dy (P:Program) (w:World) (K:W.Frag) (mg:ME) (base:Heap) (CX:tW) (k:Nat) (f:Addr) (fd:FuncData) (ps:List Str) (sp:Sp):Prop where
 len:∀ vs H Q E,sp vs H Q E->vs.length=ps.length
 run:∀ (A:Around) (outer:List Env) (s:Shared) (H:Hp) (args:Args) (us:List Value) (vs:List V) (Q:VK) (E:XK),bZ k A->sD P w K mg base A outer s H->BindsTo s fd args (ps.zip us)->Vals vs us->sp vs H Q E->
  codeAny (model P w) A (.call (.ref f) args) (CR CX outer P w H s Q E) s
variable {mg:ME}{base:Heap}{CX:tW}{fd:FuncData}{ps:List Str}
def dy.imp {K:W.Frag}{f:Addr}{sp sp':Sp}(F:dy P w K mg base CX k f fd ps sp)
  (h:∀ vs H Q E,sp' vs H Q E->sp vs H Q E):dy P w K mg base CX k f fd ps sp':=
 ⟨λvs H Q E q=>F.len vs H Q E (h _ _ _ _ q),λA outer s H args us vs Q E hr he hb hv hs=>F.run A outer s H args us vs Q E hr he hb hv (h _ _ _ _ hs)⟩
variable {outer:List Env}
def sD.make {K:W.Frag}(e:sD P w K mg base A outer s H)(C:Addr)(us:List Value)(kw:List (Str×Value)):
  sD P w K mg base (A.under (.builtin "type.__call__" ⟨.ref C::us,kw⟩)) outer s H:=⟨by first|exact e.frames|(simpa[Around.under,Code.envs,Code.isFrame,pushEnvs] using e.frames),e.mod,e.bs,e.bsz,e.jM,e.frf,e.hok,e.bare⟩
section
variable {X:Cx}{Y:MD}{U:St}{H:Hp}{s s':Shared}
def Inv.i8 (I:Inv X Y U H s):sD X.prog X.w X.K X.mg X.base X.A X.stack s H:=
 ⟨I.ok.frames,I.ok.mod,I.bs,Nat.le_trans I.ok.bsz I.sz,I.stack,I.oo,I.hok,I.bare⟩
def Inv.after {Q:VK}(I:Inv X Y U H s)(h:CE X.stack X.prog X.w H s Q u s'):EP X Y U Q u s':=by
 obtain⟨v,H',os,bare,un,hok,r,q⟩:=h;obtain⟨hh,g,d,t,os'⟩:=s';obtain rfl:os'=s.os:=os;exact⟨v,H',I.call (h':=hh) (g':=g) (d':=d) (t':=t) (ch:=[]) un hok bare (λb z=>absurd z (by simp)),r,q⟩
end
abbrev Du (sp:Sp)(dvs:List V)(E:St->XK)(t:TA):TE:=λU H Q=>t U H λvs H1=>sp (vs++dvs) H1 Q (E U)
abbrev DV (C:Addr)(sp:Sp)(dvs:List V)(E:St->XK)(t:TA):TE:=λU H Q=>t U H λvs H1=>∀ x dx,H1 x=none->H1 dx=none->dx≠x->
 sp (.ref x::(vs++dvs)) (upd (upd H1 dx (.own x)) x (.ins C dx [])) (λv H2=>v=.non/\Q (.ref x) H2) (E U)
abbrev Binds (K:W.Frag)(fd:FuncData)(ps:List Str)(ds:List Value):Prop:=
 ∀ (s:Shared) (us:List Value),K.In s.heap->(us++ds).length=ps.length->BindsTo s fd ⟨us,[]⟩ (ps.zip (us++ds))
def Binds.all {K:W.Frag}(h:∀ us:List Value,us.length=ps.length->bindArgs fd ⟨us,[]⟩=pure (ps.zip us)):Binds K fd ps []:=λs us _ hl=>by
 rw[append_nil]at hl⊢;exact .of_eq (h us hl)
abbrev Passes (CX:tW)(X:Cx)(E:St->XK):Prop:=∀ (Y:MD) (U:St) (H:Hp) (s:Shared) (e:Value) (s':Shared),Inv X Y U H s->CX X.stack H s (E U) e s'->X.xe e s'
variable {vs:List V}
section
variable {X:Cx}{CX:tW}{k:Nat}{f C:Addr}{fd:FuncData}{ps:List Str}{sp:Sp}{dvs:List V}{ds:List Value}{E:St->XK}{x m:Str}{p pos apos:Pos}{e o:Expr}{es:List Expr}{ta:TE}{t:TA}
def nU {Q:VK}(F:dy X.prog X.w X.K X.mg X.base CX k f fd ps sp)(hr:bZ k X.A)(hb:Binds X.K fd ps ds)(hd:Vals dvs ds)(hx:Passes CX X E)
  (I:Inv X Y U H s) (r:Vals vs us) (h:sp (vs++dvs) H Q (E U)):wpAny (model X.prog X.w) X.A (call (.ref f) us) (EP X Y U Q) X.xe s:=by
 have r2:Vals (vs++dvs) (us++ds):=r.append hd;have hl:(us++ds).length=ps.length:=by rw[<-r2.length];exact F.len _ _ _ _ h
 refine wpAny_call (codeAny_mono (F.run X.A X.stack s H ⟨us,[]⟩ (us++ds) (vs++dvs) Q (E U) hr I.i8 (hb s us I.b9 hl) r2 h) λr s' hq=>?_);cases r with
 |error e=>exact hx Y U H s e s' I hq
 |ok fl=>
  cases fl with
  |ret u=>exact I.after hq
  |next=>exact False.elim hq
  |brk=>exact False.elim hq
  |cont=>exact False.elim hq
def BH (F:dy X.prog X.w X.K X.mg X.base CX k f fd ps sp)(hr:bZ k X.A)(hg:Gl X x)(hm:X.mg x=some (.ref f))(hk:W.keepIn X.K (.ref f)=true)(hb:Binds X.K fd ps ds)(hd:Vals dvs ds)(hx:Passes CX X E)
  (ha:PA X (e::es) t) (hdb:(x ==("__debug__":Str))=false:=by decide) (he:bm (e::es) X.env=(false,eval e X.env)::bm es X.env:=by rfl) (hpl:(backTo pos (bm es X.env)).any (·.1)=false:=by rfl):
  PE X (.Call (.Name x p) (e::es) [] pos) (Du sp dvs E t):=by
 intro Y s U H Q I h;refine bv (bL I hg hm ?_ hdb);refine W.callWith_K (h₀:=X.base) I.ok.mod.kin hk (aB (ha pos Y s U H _ I h) λus s1 ⟨vs,H1,I1,r,q⟩=>⟨I1.b9,?_⟩) he hpl;exact nU F hr hb hd hx I1 r q
def zZ (F:dy X.prog X.w X.K X.mg X.base CX k f fd ps sp)(hr:bZ k X.A)(hg:Gl X x)(hm:X.mg x=some (.ref f))(hk:W.keepIn X.K (.ref f)=true)(hb:Binds X.K fd ps ds)(hd:Vals dvs ds)(hx:Passes CX X E)
  (hdb:(x ==("__debug__":Str))=false:=by decide):PE X (.Call (.Name x p) [] [] pos) (Du sp dvs E AJ):=by
 intro Y s U H Q I h;refine bv (bL I hg hm ?_ hdb);exact W.callWith_K0 I.b9 hk (nU (us:=[]) F hr hb hd hx I .nil h)
structure Mk (K:W.Frag) (C f:Addr):Prop where
 makes:W.makesIn K C=true
 init:W.findIn K (.ref C) "__init__"=some (some (.ref f))
 fn:W.isFn K (.ref f)=true
 kp:W.keepIn K (.ref C)=true
def rh {Q:VK}(M:Mk X.K C f)(F:dy X.prog X.w X.K X.mg X.base CX k f fd ps sp)(hr:bZ (k+1) X.A)(hb:Binds X.K fd ps ds)(hd:Vals dvs ds)
  (hx:Passes CX X E) (I:Inv X Y U H s) (r:Vals vs us)
  (h:∀ x dx,H x=none->H dx=none->dx≠x->sp (.ref x::(vs++dvs)) (upd (upd H dx (.own x)) x (.ins C dx [])) (λv H2=>v=.non/\Q (.ref x) H2) (E U)):
  wpAny (model X.prog X.w) X.A (call (.ref C) us) (EP X Y U Q) X.xe s:=by
 have hq:=h (s.heap.objs.size+1) s.heap.objs.size (I.hok.fresh (Nat.le_succ _)) (I.hok.fresh (re _)) (pi (Nat.lt_succ_self _));have I2:=Inv.made (C:=C) I;have r2:Vals (V.ref (s.heap.objs.size+1)::(vs++dvs)) (Value.ref (s.heap.objs.size+1)::(us++ds)):=.cons rfl (r.append hd);have hl:(Value.ref (s.heap.objs.size+1)::us++ds).length=ps.length:=by
  have e:=r2.length;rw[F.len _ _ _ _ hq]at e;exact e.symm
 refine wpAny_call (xa (f:=f) I.b9 M.makes M.init (beq_iff_eq.mp M.fn) (codeAny_mono (F.run _ X.stack _ _ ⟨Value.ref (s.heap.objs.size+1)::us,[]⟩ (Value.ref (s.heap.objs.size+1)::(us++ds)) _ _ (E U) (hr.make C us [])
  (I2.i8.make C us []) (hb _ (Value.ref (s.heap.objs.size+1)::us) I2.b9 hl) r2 hq) λr s' hq'=>?_))
 cases r with
 |error e=>exact hx Y U _ _ e s' I2 hq'
 |ok fl=>
  cases fl with
  |ret u=>
   obtain⟨v,H',I3,rv,ev,q3⟩:=I2.after hq';subst ev;exact⟨rv,⟨V.ref (s.heap.objs.size+1),H',I3,rfl,q3⟩⟩
  |next=>exact False.elim hq'
  |brk=>exact False.elim hq'
  |cont=>exact False.elim hq'
def Cm (M:Mk X.K C f)(F:dy X.prog X.w X.K X.mg X.base CX k f fd ps sp)(hr:bZ (k+1) X.A)(hg:Gl X x)(hm:X.mg x=some (.ref C))(hb:Binds X.K fd ps ds)(hd:Vals dvs ds)(hx:Passes CX X E)
  (ha:PA X (e::es) t) (hdb:(x ==("__debug__":Str))=false:=by decide) (he:bm (e::es) X.env=(false,eval e X.env)::bm es X.env:=by rfl) (hpl:(backTo pos (bm es X.env)).any (·.1)=false:=by rfl):
  PE X (.Call (.Name x p) (e::es) [] pos) (DV C sp dvs E t):=by
 intro Y s U H Q I h;refine bv (bL I hg hm ?_ hdb);refine W.callWith_K (h₀:=X.base) I.ok.mod.kin M.kp (aB (ha pos Y s U H _ I h) λus s1 ⟨vs,H1,I1,r,q⟩=>⟨I1.b9,?_⟩) he hpl;exact rh M F hr hb hd hx I1 r q
def y9 (M:Mk X.K C f)(F:dy X.prog X.w X.K X.mg X.base CX k f fd ps sp)(hr:bZ (k+1) X.A)(hg:Gl X x)(hm:X.mg x=some (.ref C))(hb:Binds X.K fd ps ds)(hd:Vals dvs ds)(hx:Passes CX X E)
  (hdb:(x ==("__debug__":Str))=false:=by decide):PE X (.Call (.Name x p) [] [] pos) (DV C sp dvs E AJ):=by
 intro Y s U H Q I h;refine bv (bL I hg hm ?_ hdb);exact W.callWith_K0 I.b9 M.kp (rh (us:=[]) M F hr hb hd hx I .nil h)
end
section
variable {X:Cx}{CX:tW}{k:Nat}{f C:Addr}{fd:FuncData}{ps ks:List Str}{sp:Sp}{E:St->XK}{x m:Str}{p pos apos kpos:Pos}{e o:Expr}{es:List Expr}{kws:List Keyword}{te ta:TE}{t tk:TA}{nm:Option Str}
variable {g:List Value->List Value->List Value}{gV:List V->List V->List V}
end
structure ki (N P:List Str) (sc:Scope):Prop where
 kind:sc.kind=.function
 co:sc.isCoroutine=false
 gen:sc.isGenerator=false
 nd:N.Nodup
 pre:N.take P.length=P
 par:∀ x ∈ P,sc.names.lookup x=some .local\/sc.names.lookup x=some .cell
 nofree:∀ y ∈ sc.names,y.2≠.free
def nr {kindOf:Str->Option NameKind}{x:Str}:∀ {binds:List (Str×Value)}{m:ME},(∀ v,(x,v) ∉ binds)->bindL kindOf binds m x=m x
 | [],_,_=>rfl
 |(n,v)::r,m,h=>by
  unfold bindL;rw[nr λw hw=>h w (dL _ hw)]
  split
  .have:x≠n:=by rintro rfl;exact h v mo
   simp[this]
  .rfl
def mW {kindOf:Str->Option NameKind}{x:Str}:∀ {binds:List (Str×Value)}{m:ME},(∀ v,(x,v) ∉ binds)->bindC kindOf binds m x=m x
 | [],_,_=>rfl
 |(n,v)::r,m,h=>by
  unfold bindC;rw[mW λw hw=>h w (dL _ hw)]
  split
  .rfl
  .have:x≠n:=by rintro rfl;exact h v mo
   simp[this]
def mQ {kindOf:Str->Option NameKind}{x:Str}{v:Value}:∀ {P:List Str}{vs:List Value}{i:Nat}{m:ME},P.Nodup->P[i]? =some x->vs[i]? =some v->kindOf x=some .local->
  bindL kindOf (P.zip vs) m x=some v
 | [],_,_,_,_,h,_,_=>by simp at h
 |_::_,[],_,_,_,_,h,_=>by simp at h
 |p::P,w::vs,0,m,nd,h1,h2,hk=>by
  simp at h1 h2;subst h1;subst h2;show bindL kindOf ((p,w)::P.zip vs) m p=_;unfold bindL;rw[nr λv hv=>(nodup_cons.mp nd).1 (of_mem_zip hv).1,if_pos hk];simp
 |p::P,w::vs,i+1,m,nd,h1,h2,hk=>by
  show bindL kindOf ((p,w)::P.zip vs) m x=_;unfold bindL;exact mQ (i:=i) (nodup_cons.mp nd).2 (by simpa using h1) (by simpa using h2) hk
def mX {kindOf:Str->Option NameKind}{x:Str}{v:Value}:∀ {P:List Str}{vs:List Value}{i:Nat}{m:ME},P.Nodup->P[i]? =some x->vs[i]? =some v->kindOf x≠some .local->
  bindC kindOf (P.zip vs) m x=some v
 | [],_,_,_,_,h,_,_=>by simp at h
 |_::_,[],_,_,_,_,h,_=>by simp at h
 |p::P,w::vs,0,m,nd,h1,h2,hk=>by
  simp at h1 h2;subst h1;subst h2;show bindC kindOf ((p,w)::P.zip vs) m p=_;unfold bindC;rw[mW λv hv=>(nodup_cons.mp nd).1 (of_mem_zip hv).1,if_neg hk];simp
 |p::P,w::vs,i+1,m,nd,h1,h2,hk=>by
  show bindC kindOf ((p,w)::P.zip vs) m x=_;unfold bindC;exact mX (i:=i) (nodup_cons.mp nd).2 (by simpa using h1) (by simpa using h2) hk
abbrev start (N:List Str)(vs:List V):St:=vs.map some++sK (N.length-vs.length) none
abbrev vw (CX:tW)(P:Program)(w:World)(K:W.Frag)(mg:ME)(base:Heap)(N:List Str)(qual:Str)(scope:Scope)(f:Addr)(cd:Value)(A:Around)(outer:List Env)(s:Shared)(H:Hp)(E:XK):Cx where
 prog:=P
 w:=w
 K:=K
 mg:=mg
 base:=base
 A:=A.deeper (envOfC qual scope s.heap.objs.size f cd)
 N:=N
 s₀:=s
 H₀:=H
 env:=envOfC qual scope s.heap.objs.size f cd
 outer:=outer
 stack:=envOfC qual scope s.heap.objs.size f cd::outer
 ex:=[]
 calm:=true
 fn:=λ_=>true
 pn:=[]
 xe:=λe s'=>wpAny (model P w) (A.deeper (envOfC qual scope s.heap.objs.size f cd)) (leaving (envOfC qual scope s.heap.objs.size f cd) e) (λ_ s''=>CX outer H s E e s'') (λe' s''=>CX outer H s E e' s'') s'
def rz {sc:Scope}{n:Nat}(h:sc.names.lookup x=some .cell):∃ c,(cellsFrom n sc.names []).lookup x=some c:=by
 have q:=W.cellsFrom_some sc.names n [] (.inl h);exact Option.isSome_iff_exists.mp q
variable {scope:Scope}
def wq {K:W.Frag}{N:List Str}{qual:Str}{f:Addr}{cd:Value}{s1:Shared}{E:XK}
  (S:ki N ps scope) (hd:A.handled=none) (e0:sD P w K mg base A outer s H) (hl:vs.length=ps.length) (r:Vals vs us)
  (x:InCallC s s.heap.objs.size (bindL (envOfC qual scope s.heap.objs.size f cd).kindOf (ps.zip us) λ_=>none) (cellsFrom (s.heap.objs.size+1) scope.names []) (bindC (envOfC qual scope s.heap.objs.size f cd).kindOf (ps.zip us) λ_=>none) s1):
  Inv (vw CX P w K mg base N qual scope f cd A outer s H E) [] (start N vs) H s1:=by
 have hpl:ps.length<=N.length:=by have:=congrArg List.length S.pre;rw[db]at this;omega
 obtain⟨h1,tk,rfl,hk⟩:=x.done;have noA:∀ b:Addr,b ∉ (vw CX P w K mg base N qual scope f cd A outer s H E).ex:=λb z=>absurd (show b ∈ ([]:List Addr) from z) (by simp)
 refine⟨⟨e0.mod,S.kind,rfl,rfl,re _,λy z c h1 h2=>?_,λy hy=>?_,λy c _ h=>?_,λ_=>hd,Around.frames_deeper e0.frames,.inr ⟨rfl,rfl⟩,λb z=>absurd z (noA b),e0.bs,e0.bsz,λb _ _=>noA b,λb z=>absurd z (noA b),e0.jM,e0.frf⟩,
  rfl,e0.bare,Un.kept hk,⟨_,x.toInCall.ns,λi y v h1 h2 h3=>?_⟩,λy c h=>⟨_,x.cell y c h⟩,e0.hok.fresh (re _),λy c h=>?_,λp hp=>absurd (show p ∈ ([]:MD) from hp) (by simp),e0.hok.kept hk,?_⟩
 .exact name_of_addr x.apart (PySem.mem_of_lookup h1) (PySem.mem_of_lookup h2)
 .have hy:scope.names.lookup y=some .cell\/scope.names.lookup y=some .free:=hy;rcases hy with hy|hy
  .exact rz hy
  .exact absurd rfl (S.nofree _ (PySem.mem_of_lookup hy))
 .exact Nat.le_of_lt (x.above y c (PySem.mem_of_lookup h))
 .have hi:i<vs.length:=by
   unfold start at h2
   by_cases hi:i<vs.length
   .exact hi
   .rw[List.getElem?_append_right (by simpa using hi)]at h2;rw[List.getElem?_replicate]at h2
    split at h2<;>cases h2
  have ha:vs[i]? =some v:=by
   unfold start at h2;rw[List.getElem?_append_left (by simpa using hi),io]at h2;cases e:vs[i]? with
   |none=>rw[e]at h2;cases h2
   |some a=>rw[e]at h2;cases h2;rfl
  obtain⟨u,hu,rv⟩:=r.get ha;have hp:ps[i]? =some y:=by
   rw[<-S.pre,List.getElem?_take_of_lt nofun];exact h1
  have ndP:ps.Nodup:=by rw[<-S.pre];exact S.nd.sublist (take_sublist _ _)
  refine⟨u,rv,?_⟩;rcases S.par y (cr hp) with k|k
  .exact .inl ⟨k,mQ ndP hp hu k⟩
  .obtain⟨c,e⟩:=rz (n:=s.heap.objs.size+1) k;refine .inr ⟨.inl k,c,e,?_⟩;have q:=x.cell y c e;rw[mX ndP hp hu (by show scope.names.lookup y≠_;rw[k];decide)]at q;exact q
 .exact e0.hok.fresh (Nat.le_of_lt (x.above y c (PySem.mem_of_lookup h)))
 .unfold start;show _=N.length;rw[ci,ce,List.length_replicate]
  omega
def HY {K:W.Frag}{f:Addr}{name qual:Str}{params:Arguments}{dV kV doc pm cdv ct oc:Value}{an od:Option Addr}
  {osl:Array (Option Value)}{N:List Str}{sp:Sp}(lk:K.lookup f=some ⟨oc,od,.func (W.fnOf name qual params body scope dV kV doc pm an cdv ct),osl⟩) (hcd:W.codeIn K cdv qual=true) (S:ki N ps scope)
  (len:∀ vs H Q E,sp vs H Q E->vs.length=ps.length)
  (hbody:∀ (A:Around) (outer:List Env) (s:Shared) (H:Hp) (vs:List V) (Q:VK) (E:XK),bZ k (A.deeper (envOfC qual scope s.heap.objs.size f cdv))->sp vs H Q E->
   ∃ t,Dm (vw CX P w K mg base N qual scope f cdv A outer s H E) body t/\t { nx:=λ_ H'=>Q .non H',rt:=Q } (start N vs) H):
  dy P w K mg base CX (k+1) f (W.fnOf name qual params body scope dV kV doc pm an cdv ct) ps sp:=by
 refine⟨len,λA outer s H args us vs Q E hr e0 hb r hsp=>?_⟩;have hl:=len _ _ _ _ hsp;have KX:K.In s.heap:=e0.mod.kin.keeps λb o e=>(e0.bs b o e).1
 have lim:s.heap.NoLimit:=e0.mod.nolimit.keeps λb o e=>(e0.bs b o e).1
 have hkind:∀ y ∈ ps.zip us,scope.names.lookup y.1=some .local\/(scope.names.lookup y.1=some .cell/\((cellsFrom (s.heap.objs.size+1) scope.names []).lookup y.1).isSome=true):=λ⟨n,v⟩ hy=>by
  rcases S.par n (of_mem_zip hy).1 with q|q
  .exact .inl q
  .exact .inr ⟨q,W.cellsFrom_some _ _ _ (.inl q)⟩
 refine codeAny_call_function hr.depth (KX _ _ lk) rfl S.co S.gen rfl (W.codeRec_of KX hcd) (hb _ _ _ _ ?_);refine wpAny_newFunctionEnv_cells S.kind hkind λenv he s1 x=>?_
 subst he;refine⟨lim.keeps x.toInCall.keep,codeAny_func ?_⟩;obtain⟨t,ht,hq⟩:=hbody A outer s H vs Q E (hr.deeper _) hsp;have I:Inv (vw CX P w K mg base N qual scope f cdv A outer s H E) [] (start N vs) H s1:=wq S hr.hd e0 hl r x;refine wpAny_mono (ht [] s1 (start N vs) H _ I hq) (λfl s' hs=>?_) λe s' hs=>hs
 have fin:∀ {σ':St}{H':Hp}{v:V}{u:Value},Inv (vw CX P w K mg base N qual scope f cdv A outer s H E) [] σ' H' s'->RelV v u->Q v H'->CE outer P w H s Q u s':=
  λ{σ' H' v u} J rv q=>⟨v,H',J.os,J.bare,J.base,J.hok,rv,q⟩
 cases fl with
 |ret u=>
  obtain⟨v,σ',H',J,rv,q⟩:=hs;exact fin J rv q
 |next=>
  obtain⟨σ',H',J,q⟩:=hs;exact fin (v:=V.non) (u:=Value.none) J rfl q
 |brk=>
  obtain⟨_,_,_,q⟩:=hs;exact False.elim q
 |cont=>
  obtain⟨_,_,_,q⟩:=hs;exact False.elim q
section
variable {X:Cx}{x:Str}{p pos:Pos}{e:Expr}{es:List Expr}{t:TA}{id T:String}{r:List V->Hp->VK->Prop}
abbrev Ly (r:List V->Hp->VK->Prop)(t:TA):TE:=λU H Q=>t U H λvs H1=>r vs H1 Q
def qI (hc:cO X (.builtin id) r)(hg:Gl X x)(hm:X.mg x=none)(hv:bootBuiltins x=some (.builtin id))(ha:PA X (e::es) t)(hn:x≠"__name__":=by decide) (hdb:(x ==("__debug__":Str))=false:=by decide)
  (he:bm (e::es) X.env=(false,eval e X.env)::bm es X.env:=by rfl) (hpl:(backTo pos (bm es X.env)).any (·.1)=false:=by rfl):PE X (.Call (.Name x p) (e::es) [] pos) (Ly r t):=by
 intro Y s U H Q I h;refine bv (dI I hg hm hv ?_ hn hdb);exact PyProof.Rows.callWith_builtin1 (aB (ha pos Y s U H _ I h) λus s1 ⟨vs,H1,I1,r1,q1⟩=>hc Y s1 U H1 vs us Q I1 r1 q1) he hpl
def vy (hc:cO X (.type T) r)(hg:Gl X x)(hm:X.mg x=none)(hv:bootBuiltins x=some (.type T))(ha:PA X (e::es) t)(hn:x≠"__name__":=by decide) (hdb:(x ==("__debug__":Str))=false:=by decide)
  (he:bm (e::es) X.env=(false,eval e X.env)::bm es X.env:=by rfl) (hpl:(backTo pos (bm es X.env)).any (·.1)=false:=by rfl):PE X (.Call (.Name x p) (e::es) [] pos) (Ly r t):=by
 intro Y s U H Q I h;refine bv (dI I hg hm hv ?_ hn hdb);exact PyProof.Rows.callWith_type1 (aB (ha pos Y s U H _ I h) λus s1 ⟨vs,H1,I1,r1,q1⟩=>hc Y s1 U H1 vs us Q I1 r1 q1) he hpl
end
end L2
namespace HT
open PySem PyProof.Rows
section
open PySem.SeqAt
open PySem.AutoSeq1 (wpAny_loadPart')
open PySem.MeetsSeq PySem.MeetsSeq2 PySem.MeetsSeq3
end
section
variable {prog:Program}{w:World}{A:Around}{E:MC}{s:Shared}
abbrev qJ (n d:Nat):Option Int->Nat
 |none=>d
 |some v=>if v<0 then(v+(n:Int)).toNat else min v.toNat n
end
end HT
namespace L2
open PySem PySem.Spec PyProof.Rows
@[reducible]def TO:=St->Hp->(Option Int->Hp->Prop)->Prop
abbrev PO (X:Cx)(e:Option Expr)(t:TO):Prop:=
 ∀ (Y:MD) (s:Shared) (U:St) (H:Hp) (Q:Option Int->Hp->Prop),Inv X Y U H s->t U H Q->
  wpAny (model X.prog X.w) X.A (evalPart e X.env) (λu s'=>∃ o H',Inv X Y U H' s'/\IsPart u o/\Q o H') X.xe s
abbrev BL:TO:=λ_ H Q=>Q none H
abbrev Hk (t:TE):TO:=λU H Q=>t U H λx H1=>∃ i,x=.int i/\Q (some i) H1
section
variable {X:Cx}{e:Expr}{te:TE}{lo hi:Option Expr}{tl th:TO}{pos p2:Pos}
def Cd:PO X none BL:=by
 intro Y s U H Q I h;rw[evalPart_none];exact am ⟨none,H,I,.none,h⟩
def C3 (h:PE X e te):PO X (some e) (Hk te):=by
 intro Y s U H Q I hw;rw[evalPart_some];refine aB (h Y s U H _ I hw) λu s1 ⟨x,H1,I1,r1,q1⟩=>?_
 obtain⟨i,rfl,q⟩:=q1;obtain⟨t,rfl⟩:=r1;exact⟨some i,H1,I1,.int i t,q⟩
abbrev JN (X:Cx)(r:V->Option Int->Option Int->Hp->VK->Prop):Prop:=
 ∀ (Y:MD) (s:Shared) (U:St) (H:Hp) (x:V) (v vl vu:Value) (lo hi:Option Int) (sl:Addr) (Q:VK),Inv X Y U H s->RelV x v->s.heap.IsSliceOf sl vl vu .none->IsPart vl lo->IsPart vu hi->r x lo hi H Q->
  ∃ T id,typeLookup (.type T) "__getitem__"=pure (some (.builtin id))/\s.TypeIs v T/\wpAny (model X.prog X.w) X.A (getItem v (.ref sl)) (EP X Y U Q) X.xe s
abbrev Ml (r:V->Option Int->Option Int->Hp->VK->Prop)(te:TE)(tl th:TO):TE:=λU H Q=>te U H λx H1=>tl U H1 λl H2=>th U H2 λu H3=>r x l u H3 Q
def Aa {r:V->Option Int->Option Int->Hp->VK->Prop}(hr:JN X r)(he:PE X e te)(hl:PO X lo tl)(hu:PO X hi th):PE X (.Subscript e (.Slice lo hi none p2) pos) (Ml r te tl th):=by
 intro Y s U H Q I h;refine Subscript_ (aB (he Y s U H _ I h) λv s1 ⟨x,H1,I1,r1,q1⟩=>?_);refine wpAny_Slice (aB (hl Y s1 U H1 _ I1 q1) λvl s2 ⟨l,H2,I2,pl,q2⟩=>aB (hu Y s2 U H2 _ I2 q2) λvu s3 ⟨u,H3,I3,pu,q3⟩=>?_);rw[evalPart_none];refine am ?_;have I4:Inv X Y U H3 { s3 with heap:=s3.heap.push { cls:=.type "slice",data:=.fields #[vl,vu,.none] } }:=I3.kept (t':=s3.toks) λb ob q=>ul _ q
 obtain⟨T,id,hT,ht,hg⟩:=hr Y { s3 with heap:=s3.heap.push { cls:=.type "slice",data:=.fields #[vl,vu,.none] } } U H3 x v vl vu l u s3.heap.objs.size Q I4 r1 (Heap.IsSliceOf.new ..) pl pu q3;show wpAny (model X.prog X.w) X.A (subscriptTail e (.Slice lo hi none p2) v (.ref s3.heap.objs.size)) (EP X Y U Q) X.xe { s3 with heap:=s3.heap.push { cls:=.type "slice",data:=.fields #[vl,vu,.none] } };exact tail_any (ops:=[.ref s3.heap.objs.size,v]) ht hT hg (by with_unfolding_all rfl)
abbrev gk (xs:List V)(lo hi:Option Int):List V:=(xs.drop (HT.qJ xs.length 0 lo)).take (HT.qJ xs.length xs.length hi-HT.qJ xs.length 0 lo)
def rB (xs:List V)(lo hi:Option Int):(gk xs lo hi).length<=xs.length:=by
 unfold gk;rw[db,jp]
 omega
end
abbrev Ad (n:Nat)(i:Int):Option Nat:=if 0<=i then(if i<n then some i.toNat else none) else if -(n:Int)<=i then some (i+n).toNat else none
variable {α:Type}
abbrev nZ (xs:List α)(i:Int):Option α:=(Ad xs.length i).bind λj=>xs[j]?
variable {n:Nat}
def uW {i:Int}{j:Nat}(h:Ad n i=some j):seqIndex? i n=some j/\j<n/\ -(n:Int)<=i/\i<n:=by
 unfold Ad at h
 by_cases h0:0<=i
 .rw[if_pos h0]at h
  by_cases h1:i<n
  .rw[if_pos h1]at h;have e:i.toNat=j:=Option.some.inj h;exact⟨by rw[seqIndex_of h0 h1,e],by omega,by omega,h1⟩
  .rw[if_neg h1]at h;cases h
 .rw[if_neg h0]at h
  by_cases h1: -(n:Int)<=i
  .rw[if_pos h1]at h;have e:(i+n).toNat=j:=Option.some.inj h;exact⟨by rw[seqIndex_neg nofun h1,e],by omega,h1,by omega⟩
  .rw[if_neg h1]at h;cases h
def aA {xs:List α}{i:Int}{v:α}(h:nZ xs i=some v):∃ j,seqIndex? i xs.length=some j/\xs[j]? =some v/\j<xs.length/\ -(xs.length:Int)<=i/\i<xs.length:=by
 unfold nZ at h;cases e:Ad xs.length i with
 |none=>rw[e]at h;cases h
 |some j=>
  rw[e]at h;obtain⟨h1,h2,h3,h4⟩:=uW e;exact⟨j,h1,h,h2,h3,h4⟩
def nK {xs:List α}{j:Nat}{v:α}(h:xs[j]? =some v):nZ xs (j:Int)=some v:=by
 have hj:j<xs.length:=(tz.mp h).1;have e:Ad xs.length (j:Int)=some j:=by
  unfold Ad;rw[if_pos nofun,if_pos nofun];simp
 unfold nZ;rw[e];exact h
abbrev t9 (b:Expr):Prop:=∀ o i,subscripted b false o i=operate [o,i] (getItem o i)
abbrev HX (X:Cx)(r:R2):Prop:=
 ∀ (value slice:Expr) (Y:MD) (s:Shared) (U:St) (H:Hp) (x y:V) (v u:Value) (Q:VK),Inv X Y U H s->RelV x v->RelV y u->r x y H Q->
  subscripted slice false v u=operate [v,u] (getItem v u)->wpAny (model X.prog X.w) X.A (subscriptTail value slice v u) (EP X Y U Q) X.xe s
abbrev JK (X:Cx)(id:String)(r:V->List V->Hp->VK->Prop):Prop:=
 ∀ (Y:MD) (s:Shared) (U:St) (H:Hp) (x:V) (xs:List V) (v:Value) (us:List Value) (Q:VK),Inv X Y U H s->RelV x v->Vals xs us->r x xs H Q->
  wpAny (model X.prog X.w) X.A (call (.builtin id) (v::us)) (EP X Y U Q) X.xe s
variable {Y:MD}{U:St}{H:Hp}{s:Shared}{y:V}{u:Value}
section
variable {X:Cx}{a b:Expr}{ta tb:TE}{pos:Pos}
def Jt {r:R2}(hr:HX X r)(ha:PE X a ta)(hb:PE X b tb)(hs:t9 b):PE X (.Subscript a b pos) (JG r ta tb):=by
 intro Y s U H Q I h;exact Subscript_ (Fg ha hb I h λv u s2 x y H2 I2 rx ry q=>hr a b Y s2 U H2 x y v u Q I2 rx ry q (hs _ _))
abbrev KY (K:W.Frag):R2:=λx y H Q=>∃ p xs i v,x=.ref p/\y=.int i/\aU K H p xs/\nZ xs i=some v/\Q v H
abbrev KL (K:W.Frag):R2:=λx y H Q=>∃ p xs i v,x=.ref p/\y=.int i/\bc K H p xs/\nZ xs i=some v/\Q v H
def Bu:HX X (KY X.K):=by
 intro value slice Y s U H x y v u Q I rx ry h hs;obtain⟨p,xs,i,z,rfl,rfl,hq,he,q⟩:=h;cases rx;obtain⟨t,rfl⟩:=ry;obtain⟨its,r,pl,hz⟩:=I.list hq;obtain⟨j,h1,h2,h3,h4,h5⟩:=aA he;obtain⟨w,ew,rw'⟩:=r.get h2;have hl:=r.length;have hn:=f7;have fin:EP X Y U Q w s:=⟨z,H,I,rw',q⟩
 by_cases h0:0<=i
 .have hj:i.toNat=j:=by
   rw[seqIndex_of h0 h5]at h1;exact Option.some.inj h1
  exact item_listR pl.isList h0 nofun (by rw[hj];simpa using ew) fin hs
 .have hj:(i+(its.toArray.size:Int)).toNat=j:=by
   rw[seqIndex_neg nofun h4]at h1;rw[ii,<-hl];exact Option.some.inj h1
  exact subscriptTail_builtinR (x:=w) pl.isList.typeIs slot_list_getitem.lookup
   (wpAny_getItem_list_neg (Q:=λr s'=>r=w/\EP X Y U Q r s') pl.isList nofun (by rw[ii]<;>omega) nofun (by rw[hj];simpa using ew) ⟨rfl,fin⟩) hs
def Gf:HX X (KL X.K):=by
 intro value slice Y s U H x y v u Q I rx ry h hs;obtain⟨p,xs,i,z,rfl,rfl,hq,he,q⟩:=h;cases rx;obtain⟨t,rfl⟩:=ry;obtain⟨its,r,pl,hz⟩:=I.tuple hq;obtain⟨j,h1,h2,h3,h4,h5⟩:=aA he;obtain⟨w,ew,rw'⟩:=r.get h2;have hl:=r.length;have hn:=f7;have fin:EP X Y U Q w s:=⟨z,H,I,rw',q⟩;exact subscriptTail_builtinR (x:=w) pl.typeIs slot_tuple_getitem.lookup
  (getItem_tuple (j:=j) (Q:=λr s'=>r=w/\EP X Y U Q r s') pl nofun nofun (by rw[ii,<-hl];exact h1) (by simpa using ew) ⟨rfl,fin⟩) hs
def su (its:List Value)(n j:Nat)(u:Value):Obj.mapSeq (·.setIfInBounds j u) { cls:=.type "list",data:=.seq its.toArray n }={ cls:=.type "list",data:=.seq (its.set j u).toArray n }:=by
 simp[Obj.mapSeq]
def Inv.lst {Y:MD}{U:St}{H:Hp}{s:Shared}{p:Addr}{xs:List V}(I:Inv X Y U H s)(h:H p=some (.lst xs)):
  ∃ (its:List Value) (n:Nat),Vals xs its/\s.heap.get? p=some { cls:=.type "list",data:=.seq its.toArray n }/\xs.length<=bn:=by
 obtain⟨z,its,n,r,e⟩:=I.hok p _ h;exact⟨its,n,r,e,z⟩
def Inv.Gm {p:Addr}{xs ys:List V}{its its':List Value}{n':Nat}{f:Obj->Obj}(I:Inv X Y U H s)(h:H p=some (.lst xs))
  (ho:s.heap.get? p=some { cls:=.type "list",data:=.seq its.toArray n }) (hf:f { cls:=.type "list",data:=.seq its.toArray n }={ cls:=.type "list",data:=.seq its'.toArray n' }) (r:Vals ys its') (hz:ys.length<=bn) (t:Nat):
  Inv X Y U (upd H p (.lst ys)) { s with heap:=s.heap.update p f,toks:=t }:=by
 have e:(s.heap.update p f).get? p=some { cls:=.type "list",data:=.seq its'.toArray n' }:=by
  rw[Heap.get?_update_self f ho (by rw[hf]<;>rfl),hf]
 refine I.write (x:=p) (e:=p) (by rw[h];trivial) (.inl rfl) (λb u hb q=>(Heap.get?_update_other _ _ (Ne.symm hb)).trans q) ⟨_,e⟩ ?_;exact⟨hz,its',n',r,e⟩
abbrev Jv:V->V->V->Hp->(Hp->Prop)->Prop:=λo i v H Q=>∃ p xs k j,o=.ref p/\i=.int k/\H p=some (.lst xs)/\Ad xs.length k=some j/\Q (upd H p (.lst (xs.set j v)))
def set_list:AR X Jv:=by
 intro Y s U H o i v ov iv u Q I ro ri rv h;obtain⟨p,xs,k,j,rfl,rfl,hp,hj,q⟩:=h;cases ro;obtain⟨t,rfl⟩:=ri;obtain⟨its,n,r,ho,hz⟩:=I.lst hp;obtain⟨h1,h2,h3,h4⟩:=uW hj;have hl:=r.length;have hn:=f7;have I':Inv X Y U (upd H p (.lst (xs.set j v))) { s with heap:=s.heap.update p (Obj.mapSeq (·.setIfInBounds j u)) }:=
  I.Gm hp ho (su its n j u) (r.set rv j) (by rw[length_set];exact hz) s.toks
 by_cases h0:0<=k
 .have hk:k.toNat=j:=by
   rw[seqIndex_of h0 h4]at h1;exact Option.some.inj h1
  exact W.ki_setAt ho h0 nofun (by rw[ii,<-hl];exact h4) (by rw[hk];exact⟨_,I',q⟩)
 .have hk:(k+(its.toArray.size:Int)).toNat=j:=by
   rw[seqIndex_neg nofun h3]at h1;rw[ii,<-hl];exact Option.some.inj h1
  exact W.ki_setBack ho nofun (by rw[ii,<-hl];exact h3) nofun (by rw[hk];exact⟨_,I',q⟩)
def nN (lo hi:Option Int)(n:Nat):(sliceBounds lo hi none n).1=((HT.qJ n 0 lo:Nat):Int)/\(sliceBounds lo hi none n).2.1=((HT.qJ n n hi:Nat):Int)/\(sliceBounds lo hi none n).2.2=1:=by
 refine⟨?_,?_,rfl⟩
 .cases lo with
  |none=>simp[sliceBounds,HT.qJ]
  |some i=>
   simp only[sliceBounds,HT.qJ,Option.getD_none,show(1:Int)>0 by decide,if_true]
   by_cases h:i<0
   .simp only[h,if_true]<;>omega
   .simp only[h,if_false]<;>omega
 .cases hi with
  |none=>simp[sliceBounds,HT.qJ]
  |some i=>
   simp only[sliceBounds,HT.qJ,Option.getD_none,show(1:Int)>0 by decide,if_true]
   by_cases h:i<0
   .simp only[h,if_true]<;>omega
   .simp only[h,if_false]<;>omega
def lZ (its:List Value)(lo hi:Option Int):slicePick its.toArray lo hi none=((its.drop (HT.qJ its.length 0 lo)).take (HT.qJ its.length its.length hi-HT.qJ its.length 0 lo)).toArray:=by
 obtain⟨h1,h2,h3⟩:=nN lo hi its.toArray.size;unfold slicePick;rw[h1,h2,h3];simp only[sliceRange_one,pick_run,ii]<;>rfl
abbrev KU (K:W.Frag):V->Option Int->Option Int->Hp->VK->Prop:=λx lo hi H Q=>∃ a xs,x=.ref a/\aU K H a xs/\∀ p,H p=none->Q (.ref p) (upd H p (.lst (gk xs lo hi)))
def Di:JN X (KU X.K):=by
 intro Y s U H x v vl vu lo hi sl Q I rx hs pl pu h;obtain⟨a,xs,rfl,hx,q⟩:=h;cases rx;obtain⟨its,r,ht,hz⟩:=I.list hx;have hlen:=r.length;refine⟨"list",_,slot_list_getitem.lookup,ht.isList.typeIs,?_⟩;refine wpAny_getItem_list_slice ht.isList hs pl pu .none (by simp) ?_ (by rw[ii]<;>omega);rw[lZ,<-hlen];refine⟨.ref s.heap.objs.size,_,I.laid (t':=s.toks) (o:=.lst (gk xs lo hi)) (λb ob q=>ul _ q) (re _) ?_,rfl,q _ (I.hok.fresh (re _))⟩;exact⟨Nat.le_trans (rB xs lo hi) hz,_,0,(r.drop (HT.qJ xs.length 0 lo)).take (HT.qJ xs.length xs.length hi-HT.qJ xs.length 0 lo),v6 _ rfl⟩
abbrev aE:V->Bool
 | .non=>true
 | .bl _=>true
 | .int _=>true
 | .str _=>true
 |_=>false
abbrev ef:V->V->Bool
 | .non,.non=>true
 | .bl a,.bl b=>a ==b
 | .bl a,.int b=>(if a then 1 else 0) ==b
 | .int a,.bl b=>a ==(if b then 1 else 0)
 | .int a,.int b=>a ==b
 | .str a,.str b=>a ==b
 |_,_=>false
def yR {A:Around}{x:V}{v:Value}(ry:RelV y u)(rx:RelV x v)(fy:aE y=true)(fx:aE x=true):SeqAt.EqAt A s u v (ef y x):=by
 cases y with
 |non=>
  cases ry;cases x with
  |non=>cases rx;exact SeqAt.EqAt.same _
  |bl b=>cases rx;exact SeqAt.EqAt.none_bool b
  |int b=>obtain⟨t,rfl⟩:=rx;exact SeqAt.EqAt.none_int b t
  |str b=>obtain⟨t,rfl⟩:=rx;exact SeqAt.EqAt.none_str b t
  |_=>exact absurd (show false=true from fx) Bool.false_ne_true
 |bl a=>
  cases ry;cases x with
  |non=>cases rx;exact SeqAt.EqAt.bool_none a
  |bl b=>cases rx;exact SeqAt.EqAt.bool_bool a b
  |int b=>obtain⟨t,rfl⟩:=rx;exact SeqAt.EqAt.bool_int a b t
  |str b=>obtain⟨t,rfl⟩:=rx;exact SeqAt.EqAt.bool_str a b t
  |_=>exact absurd (show false=true from fx) Bool.false_ne_true
 |int a=>
  obtain⟨t',rfl⟩:=ry;cases x with
  |non=>cases rx;exact SeqAt.EqAt.int_none a t'
  |bl b=>cases rx;exact SeqAt.EqAt.int_bool a t' b
  |int b=>obtain⟨t,rfl⟩:=rx;exact SeqAt.EqAt.int_int a t' b t
  |str b=>obtain⟨t,rfl⟩:=rx;exact SeqAt.EqAt.int_str a t' b t
  |_=>exact absurd (show false=true from fx) Bool.false_ne_true
 |str a=>
  obtain⟨t',rfl⟩:=ry;cases x with
  |non=>cases rx;exact SeqAt.EqAt.str_none a t'
  |bl b=>cases rx;exact SeqAt.EqAt.str_bool a t' b
  |int b=>obtain⟨t,rfl⟩:=rx;exact SeqAt.EqAt.str_int a t' b t
  |str b=>obtain⟨t,rfl⟩:=rx;exact SeqAt.EqAt.str_str a t' b t
  |_=>exact absurd (show false=true from fx) Bool.false_ne_true
 |_=>exact absurd (show false=true from fy) Bool.false_ne_true
abbrev AM (x:V)(u:Value):Bool:=match u with
 | .none=>ef .non x
 | .bool b=>ef (.bl b) x
 | .int i _=>ef (.int i) x
 | .str z _=>ef (.str z) x
 |_=>false
def zu {x:V}(r:RelV y u)(f:aE y=true):AM x u=ef y x:=by
 cases y with
 |non=>cases r;rfl
 |bl b=>cases r;rfl
 |int i=>obtain⟨t,rfl⟩:=r;rfl
 |str z=>obtain⟨t,rfl⟩:=r;rfl
 |_=>exact absurd (show false=true from f) Bool.false_ne_true
def pk {x:V}:∀ {xs:List V}{us:List Value},Vals xs us->xs.all aE=true->us.any (AM x)=xs.any λy=>ef y x
 |_,_,.nil,_=>rfl
 |y::xs,u::us,.cons r t,f=>by
  rw[all_cons,nl]at f;rw[any_cons,any_cons,zu r f.1,pk t f.2]
def kq {A:Around}{s:Shared}{x:V}{v:Value}(rx:RelV x v)(fx:aE x=true):∀ {xs:List V}{us:List Value},Vals xs us->xs.all aE=true->∀ u ∈ us,SeqAt.EqAt A s u v (AM x u)
 |_,_,.nil,_=>λu hu=>by cases hu
 |y::xs,u::us,.cons r t,f=>λu' hu=>by
  rw[all_cons,nl]at f;rcases nb.mp hu with rfl|hu
  .rw[zu r f.1];exact yR r rx f.1 fx
  .exact kq rx fx t f.2 u' hu
abbrev GX (x:V)(xs:List V):Bool:=xs.any λy=>ef y x
abbrev LY (K:W.Frag)(neg:Bool):R2:=λx y H Q=>∃ p xs,y=.ref p/\(aU K H p xs\/bc K H p xs)/\aE x=true/\xs.all aE=true/\Q (.bl (if neg then !GX x xs else GX x xs)) H
def vL:cR X (compareOp .In) (LY X.K false):=by
 intro Y s U H x y v u Q I rx ry h;obtain⟨p,xs,rfl,hq,fx,fs,q⟩:=h;cases ry;rcases hq with hq|hq
 .obtain⟨its,r,pl,hz⟩:=I.list hq;refine SeqAt.in_listAt (AM x) pl.isList (λw hw=>kq rx fx r fs w (by simpa using hw)) ⟨.bl _,H,I,rfl,?_⟩;rw[show its.toArray.any (AM x)=its.any (AM x) by simp,pk r fs];exact q
 .obtain⟨its,r,pl,hz⟩:=I.tuple hq;refine SeqAt.in_tupleAt (AM x) pl (λw hw=>kq rx fx r fs w (by simpa using hw)) ⟨.bl _,H,I,rfl,?_⟩;rw[show its.toArray.any (AM x)=its.any (AM x) by simp,pk r fs];exact q
def pw:cO X (.type "list") (λxs H Q=>∃ p ys,xs=[.ref p]/\(aU X.K H p ys\/bc X.K H p ys)/\∀ l,H l=none->Q (.ref l) (upd H l (.lst ys))):=by
 intro Y s U H xs us Q I r h;obtain⟨p,ys,rfl,hq,q⟩:=h;obtain⟨u,rfl,rx⟩:=vals1 r;cases rx;have fin:∀ (its:List Value),Vals ys its->ys.length<=bn->∀ (h':Heap) (c':Nat),(∀ b o',s.heap.get? b=some o'->h'.get? b=some o')->
   h'.get? s.heap.objs.size=some { cls:=.type "list",dict:=none,data:=.seq its.toArray c',slots:=#[] }->EP X Y U Q (.ref s.heap.objs.size) { s with heap:=h' }:=λits r' hz h' c' kp e=>
  ⟨.ref s.heap.objs.size,_,I.laid (t':=s.toks) kp (re _) (show aS X.prog X.w _ h' _ (.lst ys) from⟨hz,its,c',r',e⟩),rfl,q _ (I.hok.fresh (re _))⟩
 rcases hq with hq|hq
 .obtain⟨its,r',pl,hz⟩:=I.list hq;have hlen:=r'.length;obtain⟨o,ho,hc,n,hd⟩:=pl.isList;exact call_list_seq p (.inl rfl) ho hc hd (λh' c' kp e=>fin its r' hz h' c' kp e) (by simp only[ii]<;>omega)
 .obtain⟨its,r',pl,hz⟩:=I.tuple hq;have hlen:=r'.length;obtain⟨o,ho,hc,n,hd⟩:=pl;exact call_list_seq p (.inr rfl) ho hc hd (λh' c' kp e=>fin its r' hz h' c' kp e) (by simp only[ii]<;>omega)
def mh:cO X (.type "tuple") (λxs H Q=>∃ p ys,xs=[.ref p]/\((aU X.K H p ys/\∀ l,H l=none->Q (.ref l) (upd H l (.tup ys)))\/(bc X.K H p ys/\Q (.ref p) H))):=by
 intro Y s U H xs us Q I r h;obtain⟨p,ys,rfl,h⟩:=h;obtain⟨u,rfl,rx⟩:=vals1 r;cases rx;rcases h with⟨hq,q⟩|⟨hq,q⟩
 .obtain⟨its,r',pl,hz⟩:=I.list hq;have hlen:=r'.length;refine call_tuple_list pl.isList (λh' kp=>?_) (by simp only[ii]<;>omega);have I1:Inv X Y U H { s with heap:=h' }:=I.kept (t':=s.toks) kp;have I2:Inv X Y U (upd H h'.objs.size (.tup ys)) { s with heap:=h'.push { cls:=.type "tuple",data:=.seq its.toArray } }:=
   I1.laid (t':=s.toks) (λb o e=>ul _ e) (re _) (show aS X.prog X.w _ _ _ (.tup ys) from⟨hz,its,r',IsTup.new _ _⟩)
  exact⟨.ref h'.objs.size,_,I2,rfl,q _ (I1.hok.fresh (re _))⟩
 .obtain⟨its,r',pl,hz⟩:=I.tuple hq;exact call_tuple_same pl ⟨.ref p,H,I,rfl,q⟩
abbrev Lg (K:W.Frag)(T:String)(x:V)(H:Hp):Prop:=match x with
 | .str _=>T="str"
 | .int _=>T="int"
 | .ref p=>(T="list"/\∃ xs,aU K H p xs)\/(T="tuple"/\∃ o,K.lookup p=some o/\o.cls=.type "tuple"/\o.dict=none)\/
   (T="dict"/\((∃ kvs,H p=some (.dK kvs))\/∃ kvs,H p=some (.dT kvs)))\/(T="set"/\∃ S n,H p=some (.set S n))
 |_=>False
def yy {T:String}{x:V}{v:Value}(I:Inv X Y U H s)(r:RelV x v)(ty:Lg X.K T x H):
  s.TypeIs v T/\∀ a,v=.ref a->∃ ob,s.heap.get? a=some ob/\ob.dict=none:=by
 cases x with
 |str z=>
  obtain⟨t,rfl⟩:=r;cases(show T="str" from ty);exact⟨typeIs_str s z t,λ_ e=>nomatch e⟩
 |int i=>
  obtain⟨t,rfl⟩:=r;cases(show T="int" from ty);exact⟨typeIs_int s i t,λ_ e=>nomatch e⟩
 |ref p=>
  cases r;rcases ty with⟨rfl,xs,hq⟩|⟨rfl,o,hk,hc,hd⟩|⟨rfl,hk⟩|⟨rfl,S,n,hk⟩
  .obtain⟨its,_,pl,_⟩:=I.list hq;refine⟨pl.isList.typeIs,λa e=>?_⟩;cases e;obtain⟨o,n,e,c,hd,_⟩:=pl;exact⟨o,e,hd⟩
  .refine⟨⟨o,I.b9 p o hk,hc⟩,λa e=>?_⟩;cases e;exact⟨o,I.b9 _ o hk,hd⟩
  .have z:∃ o,s.heap.get? p=some o/\o.ExactDict:=by
    rcases hk with⟨kvs,hk⟩|⟨kvs,hk⟩
    .obtain⟨_,_,_,_,o,_,_,e,ex,_⟩:=I.hok p _ hk;exact⟨o,e,ex⟩
    .obtain⟨_,_,_,_,o,_,_,e,ex,_⟩:=I.hok p _ hk;exact⟨o,e,ex⟩
   obtain⟨o,e,ex⟩:=z;refine⟨⟨o,e,ex.1⟩,λa e2=>?_⟩;cases e2;exact⟨o,e,ex.2.1⟩
  .obtain⟨o,_,_,_,e,ex,_⟩:=I.hok p _ hk;refine⟨⟨o,e,ex.1⟩,λa e2=>?_⟩;cases e2;exact⟨o,e,ex.2.1⟩
 |_=>exact False.elim ty
abbrev K4 (K:W.Frag)(T:String)(r:V->List V->Hp->VK->Prop)(to:TE):TE:=λU H Q=>to U H λx H1=>Lg K T x H1/\r x [] H1 Q
abbrev Mu (K:W.Frag)(T:String)(r:V->List V->Hp->VK->Prop)(to:TE)(t:TA):TE:=λU H Q=>to U H λx H1=>Lg K T x H1/\t U H1 λxs H2=>r x xs H2 Q
variable {o e:Expr}{es:List Expr}{to:TE}{t:TA}{name:Str}{apos cpos:Pos}{T id:String}{r:V->List V->Hp->VK->Prop}
def EN (pa:PlainAttrs T)(slot:Slot T name id)(hty:typeOf (.builtin id)=pure (.type "method_descriptor")) (hm:JK X id r) (ho:PE X o to)
  (hbase:attributeBase o name X.env (eval o X.env)=eval o X.env:=by rfl) (hline:(apos.endLine ==cpos.line)=true:=by rfl):PE X (.Call (.Attribute o name apos) [] [] cpos) (K4 X.K T r to):=by
 intro Y s U H Q I h;refine wpAny_Call_method0_late hbase hline (aB (ho Y s U H _ I h) λv s1 ⟨x,H1,I1,r1,ty,q1⟩=>?_);obtain⟨h1,h2⟩:=yy I1 r1 ty;exact⟨T,id,pa,slot,hty,h1,h2,Calls.callWith_builtin rfl (PySem.evalArgs_none (hm Y s1 U H1 x [] v [] Q I1 r1 .nil q1))⟩
def Ik (pa:PlainAttrs T)(slot:Slot T name id)(hty:typeOf (.builtin id)=pure (.type "method_descriptor")) (hm:JK X id r) (ho:PE X o to) (ha:PA X (e::es) t)
  (hbase:attributeBase o name X.env (eval o X.env)=eval o X.env:=by rfl)
  (hfew:((backTo cpos (bm (e::es) X.env)).all (λx=>!x.1)&&(backToKw cpos (keywordEach [] X.env)).all (λx=>x.1.isSome)
   &&decide ((e::es).length+([]:List Keyword).length+(if([]:List Keyword).isEmpty then 0 else 1)<30))=true:=by rfl)
  (hline:(apos.endLine ==cpos.line)=true:=by rfl) (hs:bm (e::es) X.env=(false,eval e X.env)::bm es X.env:=by rfl) (hplain:(backTo cpos (bm es X.env)).any (·.1)=false:=by rfl):
  PE X (.Call (.Attribute o name apos) (e::es) [] cpos) (Mu X.K T r to t):=by
 intro Y s U H Q I h;refine wpAny_Call_method_late hbase hfew hline rfl (aB (ho Y s U H _ I h) λv s1 ⟨x,H1,I1,r1,ty,q1⟩=>?_);obtain⟨h1,h2⟩:=yy I1 r1 ty;refine⟨T,id,pa,slot,hty,h1,h2,?_⟩;have hA:=ha cpos Y s1 U H1 _ I1 q1;rw[hs]at hA⊢;refine Calls.callWith_builtin (by show(false||(backTo cpos (bm es X.env)).any (·.1))=false;rw[hplain]<;>rfl) (Calls.evalArgs_plain ?_);exact aB hA λus s2 ⟨vs,H2,I2,r2,q2⟩=>hm Y s2 U H2 x vs v us Q I2 r1 r2 q2
/- xs.append(e),list.index on a module's tuple .. are JK facts of 06m -/
end
abbrev Lh (X:Cx)(id:String)(r:V->List V->Hp->VK->Prop):Prop:=
 ∀ (Y:MD) (s:Shared) (U:St) (H:Hp) (x:V) (xs:List V) (v:Value) (us:List Value) (Q:VK),Inv X Y U H s->RelV x v->Vals xs us->r x xs H Q->
  wpAny (model X.prog X.w) X.A (call (.builtin id) (v::us)) (EP X Y U Q) X.xe s
def Vals.one:∀ {x:V}{us:List Value},Vals [x] us->∃ u,us=[u]/\RelV x u
 |_,_,.cons r .nil=>⟨_,rfl,r⟩
def Vals.zero:∀ {us:List Value},Vals [] us->us=[]
 |_,.nil=>rfl
def Vals.eraseIdx:∀ {xs:List V}{us:List Value}(i:Nat),Vals xs us->Vals (xs.eraseIdx i) (us.eraseIdx i)
 |_,_,_,.nil=>.nil
 |_,_,0,.cons _ t=>t
 |_,_,i+1,.cons r t=>.cons r (Vals.eraseIdx i t)
variable {us:List Value}
def Vals.reverse {xs:List V}(h:Vals xs us):Vals xs.reverse us.reverse:=by
 induction h with
 |nil=>exact .nil
 |cons r t ih=>rw[List.reverse_cons,List.reverse_cons];exact Vals.append ih (.cons r .nil)
def Vals.rep {xs:List V}(h:Vals xs us):∀ k:Nat,Vals (sK k xs).flatten (sK k us).flatten
 |0=>.nil
 |k+1=>by
  rw[replicate_succ,replicate_succ,flatten_cons,flatten_cons];exact Vals.append h (Vals.rep h k)
def foldl_rep (its:List Value):∀ (k:Nat) (acc:List Value),
  List.foldl (λx1 x2=>x1++x2) acc.toArray (sK k its.toArray)=(acc++(sK k its).flatten).toArray
 |0,acc=>by simp
 |k+1,acc=>by
  have e:acc.toArray++its.toArray=(acc++its).toArray:=by simp
  have e2:(acc++its)++(sK k its).flatten=acc++(sK (k+1) its).flatten:=by
   rw[replicate_succ,flatten_cons,le]
  rw[<-e2,<-foldl_rep its k (acc++its),<-e,replicate_succ,foldl_cons]
section
variable {X:Cx}{Y:MD}{U:St}{H:Hp}{s:Shared}{l b:Addr}{xs ys zs:List V}
def Inv.ER {its its':List Value}{f:Array Value->Array Value}{t':Nat}(I:Inv X Y U H s)(hH:H l=some (.lst xs))
  (e:s.heap.get? l=some { cls:=.type "list",data:=.seq its.toArray n }) (hf:f its.toArray=its'.toArray) (hv:Vals ys its') (hz:ys.length<=bn):
  Inv X Y U (upd H l (.lst ys)) { s with heap:=s.heap.update l (Obj.mapSeq f),toks:=t' }:=by
 have q:=PySem.IsL.update e f;rw[hf]at q;refine I.write (x:=l) (e:=l) (by rw[hH];exact trivial) (.inl rfl) (λb' u hb hu=>(Heap.get?_update_other s.heap (Obj.mapSeq f) (Ne.symm hb)).trans hu) ⟨_,q⟩ ?_;exact⟨hz,its',_,hv,q⟩
def Inv.IT {its:List Value}{t':Nat}(I:Inv X Y U H s)(hv:Vals ys its)(hz:ys.length<=bn):
  Inv X Y U (upd H s.heap.objs.size (.lst ys)) { s with heap:=s.heap.push { cls:=.type "list",data:=.seq its.toArray },toks:=t' }:=
 I.laid (λ_ _ q=>ul _ q) (re _) ⟨hz,its,0,hv,v6 _ rfl⟩
def Inv.fresh (I:Inv X Y U H s):H s.heap.objs.size=none:=I.hok.fresh (re _)
def Inv.qT (I:Inv X Y U H s)(hH:H l=some (.lst xs)):xs.length<=bn/\∃ (its:List Value) (n:Nat),Vals xs its/\xs.length=its.length/\s.heap.get? l=some { cls:=.type "list",data:=.seq its.toArray n }:=by
 obtain⟨z,its,n,r,e⟩:=I.hok l _ hH;exact⟨z,its,n,r,r.length,e⟩
def qv (h:n<=bn):Builtin.List.listTooLong n=false:=by
 unfold Builtin.List.listTooLong;exact decide_eq_false nofun
end
section
variable {X:Cx}
abbrev BO:V->List V->Hp->VK->Prop:=λx vs H Q=>∃ l xs y,x=.ref l/\vs=[y]/\H l=some (.lst xs)/\xs.length<bn/\Q .non (upd H l (.lst (xs++[y])))
def i6:Lh X "list.append" BO:=by
 intro Y s U H x vs v us Q I rx rv h;obtain⟨l,xs,y,rfl,rfl,hH,hz,q⟩:=h;cases rx;obtain⟨u,rfl,ru⟩:=rv.one;obtain⟨z,its,n,r,hl,e⟩:=I.qT hH;refine call_meets F.slot_list_append ⟨_,e,rfl⟩ F.entry_list_append (F.args_list_append_2 _ _) (PySem.list_append l its.toArray n u (by rw[ii];omega)) ⟨e,?_⟩;refine⟨.non,_,I.ER (its':=its++[u]) hH e (by simp) (r.append (.cons ru .nil)) ?_,rfl,q⟩;rw[ci,ge]
 omega
abbrev Cv:V->List V->Hp->VK->Prop:=λx vs H Q=>∃ l b xs zs,x=.ref l/\vs=[.ref b]/\H l=some (.lst xs)/\H b=some (.lst zs)/\xs.length+zs.length<=bn/\Q .non (upd H l (.lst (xs++zs)))
def vn:Lh X "list.extend" Cv:=by
 intro Y s U H x vs v us Q I rx rv h;obtain⟨l,b,xs,zs,rfl,rfl,hH,hB,hz,q⟩:=h;cases rx;obtain⟨u,rfl,ru⟩:=rv.one;cases ru;obtain⟨z,its,n,r,hl,e⟩:=I.qT hH;obtain⟨z2,jY,n2,r2,hl2,e2⟩:=I.qT hB;have hsz:its.toArray.size+jY.toArray.size<=bn:=by rw[ii,ii];omega
 have hlong:¬ (!its.toArray.isEmpty&&Builtin.List.listTooLong (its.toArray.size+jY.toArray.size))=true:=by
  rw[qv hsz,Bool.and_false];exact Bool.false_ne_true
 refine call_meets F.slot_list_extend ⟨_,e,rfl⟩ F.entry_list_extend (F.args_list_extend_2 _ _)
  (AutoSeq1.list_extend_list_list_0 l its.toArray n b jY.toArray n2 hlong (by rw[ii];omega) nofun) ⟨e,e2,?_⟩
 refine⟨.non,_,I.ER (its':=its++jY) hH e (by simp) (r.append r2) ?_,rfl,q⟩;rw[ci]
 omega
abbrev Kk:R2:=λx y H Q=>∃ l b xs zs,x=.ref l/\y=.ref b/\H l=some (.lst xs)/\H b=some (.lst zs)/\xs.length+zs.length<=bn/\∀ p,H p=none->Q (.ref p) (upd H p (.lst (xs++zs)))
def Gu:cR X (binaryOp .Add) Kk:=by
 intro Y s U H x y v u Q I rx ry h;obtain⟨l,b,xs,zs,rfl,rfl,hH,hB,hz,q⟩:=h;cases rx;cases ry;obtain⟨z,its,n,r,hl,e⟩:=I.qT hH;obtain⟨z2,jY,n2,r2,hl2,e2⟩:=I.qT hB;refine PySem.P.add_list e e2 ?_ (by rw[ii,ii];omega);have ea:its.toArray++jY.toArray=(its++jY).toArray:=by simp
 rw[ea];exact⟨.ref _,_,I.IT (t':=s.toks) (r.append r2) (by rw[ci];omega),rfl,q _ I.fresh⟩
abbrev Kc:R2:=λx y H Q=>∃ l k xs,x=.ref l/\y=.int k/\H l=some (.lst xs)/\ -(2 ^ 63)<=k/\k<2 ^ 63/\xs.length*k.toNat<=bn/\
 ∀ p,H p=none->Q (.ref p) (upd H p (.lst (sK k.toNat xs).flatten))
def len_rep (xs:List α)(k:Nat):(sK k xs).flatten.length=k*xs.length:=by
 induction k with
 |zero=>simp
 |succ k ih=>rw[replicate_succ,flatten_cons,ci,ih,Nat.succ_mul,Nat.add_comm]
def Gb:cR X (binaryOp .Mult) Kc:=by
 intro Y s U H x y v u Q I rx ry h;obtain⟨l,k,xs,rfl,rfl,hH,h1,h2,hz,q⟩:=h;cases rx;obtain⟨t,rfl⟩:=ry;obtain⟨z,its,n,r,hl,e⟩:=I.qT hH;have hlen:its.toArray.size*k.toNat<=bn:=by rw[ii,<-hl];exact hz
 have hcap:¬ its.toArray.size*k.toNat>(2 ^ 63-1) / 8:=by
  have:(bn:Nat)<=(2 ^ 63-1) / 8:=by decide
  omega
 have hfit:¬ (!Builtin.List.listFitsIndex k)=true:=by
  rw[fitsIndex_both h1 h2];exact Bool.false_ne_true
 have hlong:¬ Builtin.List.listTooLong (its.toArray.size*k.toNat)=true:=by
  rw[qv hlen];exact Bool.false_ne_true
 have hnew:List.foldl (λx1 x2=>x1++x2) #[] (sK (if its.toArray.isEmpty=true then 0 else k.toNat) its.toArray)=(sK k.toNat its).flatten.toArray:=by
  have f0:∀ m:Nat,List.foldl (λx1 x2=>x1++x2) #[] (sK m its.toArray)=(sK m its).flatten.toArray:=λm=>by
   have:=foldl_rep its m [];rw[nil_append]at this;exact this
  rw[f0];cases its with
  |nil=>simp
  |cons a r'=>rw[if_neg (by simp)]
 refine wpAny_binaryOp_repeat_ref (T:="list") (U:="int") (by decide) ⟨_,e,rfl⟩ (λs'=>typeIs_int s' k t) noFill_list_mul F.fills_int_mul F.slot_int_rmul repeat_list F.slot_int_index.lookup
  (call_meets F.slot_int_rmul (typeIs_int s k t) F.entry_int_rmul (F.args_int_rmul_2 _ _) (int___rmul___int_list k t l its.toArray n)
   ⟨e,rfl,⟨_,e,rfl⟩,call_meets F.slot_list_mul ⟨_,e,rfl⟩ F.entry_list_mul (F.args_list_mul_2 _ _) (AutoListH.list___mul___list_int_3 l its.toArray n k t hfit hcap hlong) ⟨e,?_⟩⟩)
 rw[hnew];exact⟨.ref _,_,I.IT (t':=s.toks) (r.rep k.toNat) (by rw[len_rep,Nat.mul_comm];exact hz),rfl,q _ I.fresh⟩
end
section
variable {prog:Program}{w:World}{A:Around}{E:MC}{s:Shared}
set_option maxRecDepth 100000 in
end
section
variable {X:Cx}
end
variable {o:Option V}
section
variable {κ:Type} [DecidableEq κ]
abbrev jU (kvs:List (κ×V))(k:κ):Option V:=(kvs.find? λkv=>decide (kv.1=k)).map (·.2)
abbrev putK (kvs:List (κ×V))(k:κ)(v:V):List (κ×V):=
 if(kvs.any λkv=>decide (kv.1=k))=true then kvs.map (λkv=>if kv.1=k then(kv.1,v) else kv) else kvs++[(k,v)]
def kY {p:κ×V}{r:List (κ×V)}{k:κ}(e:p.1=k):jU (p::r) k=some p.2:=by simp[jU,find?_cons,e]
def lE {p:κ×V}{r:List (κ×V)}{k:κ}(e:¬ p.1=k):jU (p::r) k=jU r k:=by simp[jU,find?_cons,e]
def pY (k:κ):∀ kvs:List (κ×V),(kvs.any λkv=>decide (kv.1=k))=(jU kvs k).isSome
 | []=>rfl
 |p::r=>by
  rw[any_cons]
  by_cases e:p.1=k
  .simp only[kY e,decide_eq_true e,Bool.true_or,Option.isSome_some]
  .rw[lE e,decide_eq_false e,Bool.false_or];exact pY k r
def fc (kvs:List (κ×V))(k:κ)(v:V):(putK kvs k v).length<=kvs.length+1:=by
 unfold putK
 split
 .rw[ce];omega
 .rw[ci,length_cons,length_nil];omega
def dr.vJ {u:Option Value}(r:dr o u):o.isSome=u.isSome:=by
 cases o with
 |none=>cases u with
  |none=>rfl
  |some _=>exact(show False from r).elim
 |some _=>cases u with
  |none=>exact(show False from r).elim
  |some _=>rfl
def KV.val {kvs:List (κ×V)}{vs:List (κ×Value)}(r:KV kvs vs)(k:κ):dr (jU kvs k) (valueAt vs k):=by
 unfold KV at r
 induction r with
 |nil=>exact True.intro
 | @cons p q ps qs h t ih=>
  obtain⟨h1,h2⟩:=h
  by_cases e:p.1=k
  .have e':q.1=k:=h1.symm.trans e;have b:valueAt (q::qs) k=some q.2:=by simp[valueAt,find?_cons,e']
   rw[kY e,b];exact h2
  .have e':¬ q.1=k:=λz=>e (h1.trans z)
   have b:valueAt (q::qs) k=valueAt qs k:=by simp[valueAt,find?_cons,e']
   rw[lE e,b];exact ih
def KV.any {kvs:List (κ×V)}{vs:List (κ×Value)}(r:KV kvs vs)(k:κ):(kvs.any λkv=>decide (kv.1=k))=vs.any λkv=>decide (kv.1=k):=by
 unfold KV at r
 induction r with
 |nil=>rfl
 |cons h t ih=>rw[any_cons,any_cons,ih,h.1]
def KV.GF {kvs:List (κ×V)}{vs:List (κ×Value)}(r:KV kvs vs)(k:κ)(ry:RelV y u):
  KV (kvs.map λkv=>if kv.1=k then(kv.1,y) else kv) (vs.map λkv=>if kv.1=k then(kv.1,u) else kv):=by
 unfold KV at r⊢
 induction r with
 |nil=>exact .nil
 | @cons p q ps qs h t ih=>
  rw[map_cons,map_cons];refine .cons ?_ ih;obtain⟨h1,h2⟩:=h
  by_cases e:p.1=k
  .rw[if_pos e,if_pos (h1.symm.trans e)];exact⟨h1,ry⟩
  .rw[if_neg e,if_neg (λz=>e (h1.trans z))];exact⟨h1,h2⟩
def KV.put {kvs:List (κ×V)}{vs:List (κ×Value)}(r:KV kvs vs)(k:κ)(ry:RelV y u):KV (putK kvs k y) (stored vs k u):=by
 unfold putK stored;rw[r.any k]
 by_cases e:(vs.any λkv=>decide (kv.1=k))=true
 .rw[if_pos e,if_pos e];exact r.GF k ry
 .rw[if_neg e,if_neg e];exact Paired.snoc r ⟨rfl,ry⟩
def KV.length {kvs:List (κ×V)}{vs:List (κ×Value)}(r:KV kvs vs):kvs.length=vs.length:=Paired.length r
end
variable {P:Program}{w:World}
def qq {k:Key}(r:RelV (kV k) u):(aL P w).is k u=true:=by
 cases k with
 |inl i=>obtain⟨t,e⟩:=(show ∃ t,u=Value.int i t from r);subst e;exact ql P w i t
 |inr x=>obtain⟨t,e⟩:=(show ∃ t,u=Value.str x t from r);subst e;exact qu P w x t
def nB {P:Program}{w:World}:∀ {ks:List Key}{us:List Value},Vals (ks.map kV) us->ItemsAre (aL P w) ks us
 | [],_,r=>by rw[List.map_nil]at r;cases r;exact .nil
 |k::ks,_,r=>by
  rw[map_cons]at r;cases r with
  |cons h t=>exact .cons (qq h) (nB t)
@[reducible]def KT (H:Hp):List (List Key×V)->List (List Key×Addr×Value)->Prop:=Paired λp q=>p.1=q.1/\H q.2.1=some (.tup (p.1.map kV))/\RelV p.2 q.2.2
variable {xs:List (List Key×Addr×Value)}{kvs:List (List Key×V)}
def KT.val (r:KT H kvs xs)(k:List Key):dr (jU kvs k) ((atKey xs k).map (·.2)):=by
 induction r with
 |nil=>exact True.intro
 | @cons p q ps qs h t ih=>
  obtain⟨h1,_,h2⟩:=h
  by_cases e:p.1=k
  .have e':q.1=k:=h1.symm.trans e;have b:atKey (q::qs) k=some q.2:=by simp[atKey,find?_cons,e']
   rw[kY e,b];exact h2
  .have e':¬ q.1=k:=λz=>e (h1.trans z)
   have b:atKey (q::qs) k=atKey qs k:=by simp[atKey,find?_cons,e']
   rw[lE e,b];exact ih
def KT.GF (r:KT H kvs xs)(k:List Key)(ry:RelV y u):
  KT H (kvs.map λkv=>if kv.1=k then(kv.1,y) else kv) (xs.map (putAt k u)):=by
 induction r with
 |nil=>exact .nil
 | @cons p q ps qs h t ih=>
  rw[map_cons,map_cons];refine .cons ?_ ih;obtain⟨h1,h2,h3⟩:=h;unfold putAt
  by_cases e:p.1=k
  .rw[if_pos e,if_pos (h1.symm.trans e)];exact⟨h1,h2,ry⟩
  .rw[if_neg e,if_neg (λz=>e (h1.trans z))];exact⟨h1,h2,h3⟩
def KT.put (r:KT H kvs xs)(k:List Key){b:Addr}(hb:H b=some (.tup (k.map kV)))(ry:RelV y u):
  KT H (putK kvs k y) (storedH xs k b u):=by
 have e:(kvs.any λkv=>decide (kv.1=k))=(atKey xs k).isSome:=by
  rw[pY,(r.val k).vJ,Option.isSome_map]
 unfold putK storedH;rw[e]
 by_cases q:(atKey xs k).isSome=true
 .rw[if_pos q,if_pos q];exact r.GF k ry
 .rw[if_neg q,if_neg q];exact Paired.snoc r ⟨rfl,hb,ry⟩
variable {H':Hp}
def KT.keeps (r:KT H kvs xs)(ht:∀ b ys,H b=some (.tup ys)->H' b=some (.tup ys)):KT H' kvs xs:=
 Paired.FF r λ_ _ z=>⟨z.1,ht _ _ z.2.1,z.2.2⟩
section
variable {P:Program}{w:World}{H:Hp}{h:Heap}{a:Addr}
def Dk {u:HO}(ok:gb P w H h)(e:Rd H a u):aS P w H h a u:=e.ok ok
def nA {kvs:List (Key×V)}(ok:gb P w H h)(e:Rd H a (.dK kvs)):kvs.length<=bn/\(a ==sysModules)=false/\∃ vs,KV kvs vs/\h.DictOf (aL P w) a vs:=
 show aS P w H h a (.dK kvs) from Dk ok e
def DU {kvs:List (Key×V)}(ok:gb P w H h)(e:H a=some (.dK kvs)):kvs.length<=bn/\(a ==sysModules)=false/\∃ vs,KV kvs vs/\h.DictOf (aL P w) a vs:=nA ok (.inl e)
def tJ {ks:List Key}(ok:gb P w H h)(e:H a=some (.tup (ks.map kV))):(tupleKind (aL P w)).is h ks a:=by
 obtain⟨_,its,r,o,h1,h2,n,h3⟩:=(show aS P w H h a (.tup (ks.map kV)) from ok a _ e);exact⟨o,its.toArray,n,h1,h2,h3,by simpa using nB r⟩
def zA (ok:gb P w H h)(e:Rd H a (.dT kvs)):kvs.length<=bn/\(a ==sysModules)=false/\
  ∃ xs,KT H kvs xs/\h.DictOfH (tupleKind (aL P w)) a xs:=by
 obtain⟨z,y,xs,r,o,es,ep,h1,h2,h3,h4,h5⟩:=(show aS P w H h a (.dT kvs) from Dk ok e);refine⟨z,y,xs,r,o,es,ep,h1,h2,h3,h4,λx hx=>?_,h5⟩;have all:∀ {l:List (List Key×V)}{m:List (List Key×Addr×Value)},KT H l m->∀ x ∈ m,(tupleKind (aL P w)).is h x.1 x.2.1:=by
  intro l m q
  induction q with
  |nil=>intro x hx;exact nomatch hx
  | @cons p q ps qs hq t ih=>
   intro x hx;rcases nb.mp hx with e|hx
   .subst e;exact tJ ok (by rw[<-hq.1];exact hq.2.1)
   .exact ih x hx
 exact all r x hx
def Jg (ok:gb P w H h)(e:H a=some (.dT kvs)):kvs.length<=bn/\(a ==sysModules)=false/\
  ∃ xs,KT H kvs xs/\h.DictOfH (tupleKind (aL P w)) a xs:=zA ok (.inl e)
end
abbrev El (H:Hp)(a:Addr)(y:V)(r:Option V):Prop:=
 (∃ kvs k,Rd H a (.dK kvs)/\y=kV k/\r=jU kvs k)\/∃ kvs k b,Rd H a (.dT kvs)/\y=.ref b/\H b=some (.tup (k.map kV))/\r=jU kvs k
abbrev Iu (H:Hp)(a:Addr)(y v:V)(H':Hp):Prop:=
 (∃ kvs k,H a=some (.dK kvs)/\y=kV k/\kvs.length<bn/\H'=upd H a (.dK (putK kvs k v)))\/
 ∃ kvs k b,H a=some (.dT kvs)/\y=.ref b/\H b=some (.tup (k.map kV))/\kvs.length<bn/\H'=upd H a (.dT (putK kvs k v))
section
variable {X:Cx}{Y:MD}{U:St}{H:Hp}{s:Shared}{a:Addr}{y v:V}{u r:Value}{o:Option V}{A:Around}{E:MC}
def Inv.big (I:Inv X Y U H s):sysModules<s.heap.objs.size:=by
 have h:mainGlobals<s.heap.objs.size:=(I.mod.glob.keeps I.bk).lt;exact Nat.lt_trans (by decide) h
def wb {Q:MC}(hu:A.units+1<cLine)(I:Inv X Y U H s)(g:El H a y (some v))(ry:RelV y u)(h:∀ w' s',Inv X Y U H s'->RelV v w'->Q w' s'):
  wpAny (model X.prog X.w) A (getItem (.ref a) u) Q E s:=by
 rcases g with⟨kvs,k,e,ey,l⟩|⟨kvs,k,b,e,ey,eb,l⟩
 .subst ey;obtain⟨z,hd,vs,rel,dd⟩:=nA I.hok e;obtain⟨w',hw,rw'⟩:=dr.some_of (v:=v) (o:=valueAt vs k) (by rw[l];exact rel.val k);exact wpAny_getItem_of (qq ry) dd.mapOf hw (h w' _ (I.tok _) rw')
 .subst ey;cases(show u=Value.ref b from ry);obtain⟨z,hd,xs,rel,dd⟩:=zA I.hok e;obtain⟨w',hw,rw'⟩:=dr.some_of (v:=v) (o:=(atKey xs k).map (·.2)) (by rw[l];exact rel.val k);obtain⟨p,hp,hp2⟩:=nw.mp hw;refine wpAny_getItem_heap (tupleKind_room_in1 hu) (tJ I.hok eb) dd hp ?_;rw[hp2];exact h w' _ (I.tok _) rw'
def og {h':Heap}{t':Nat}{ob:HO}(I:Inv X Y U H s)(mu:Js (H a))(hs:Heap.SameBut a s.heap h')(he:∃ q,h'.get? a=some q) (new:aS X.prog X.w (upd H a ob) h' a ob):
  Inv X Y U (upd H a ob) { s with heap:=h',toks:=t' }:=
 I.write (x:=a) (e:=a) mu (.inl rfl) (λb q hb z=>(hs.2 b hb).trans z) he new
def sh {h':Heap}{kvs:List (Key×V)}{vs:List (Key×Value)}(z:kvs.length<=bn)(hd:(a ==sysModules)=false)(rel:KV kvs vs)(dd:h'.DictOf (aL P w) a vs):
  aS P w H' h' a (.dK kvs):=⟨z,hd,vs,rel,dd⟩
def wx {Q:MB}(hu:A.units+1<cLine)(I:Inv X Y U H s)(g:Iu H a y v H')(ry:RelV y u)(rv:RelV v r)(h:∀ s',Inv X Y U H' s'->Q () s'):
  wpAny (model X.prog X.w) A (setItem (.ref a) u r) Q E s:=by
 rcases g with⟨kvs,k,e,ey,l,eH⟩|⟨kvs,k,b,e,ey,eb,l,eH⟩
 .subst ey eH;obtain⟨z,hd,vs,rel,dd⟩:=DU I.hok e;have hz:vs.length<=bn:=by rw[<-rel.length];exact z
  have hl:(putK kvs k v).length<=bn:=by have:=fc kvs k v;omega
  refine wpAny_setItem_pairs (hsz:=hz) (qq ry) dd λh' dd' hs=>h _ ?_
  have he:∃ q,h'.get? a=some q:=let⟨q,_,_,hq,_⟩:=dd';⟨q,hq⟩;exact og I (by rw[e];exact True.intro) hs he (sh hl hd (rel.put k rv) dd')
 .subst ey eH;cases(show u=Value.ref b from ry);obtain⟨z,hd,xs,rel,dd⟩:=Jg I.hok e;have hz:xs.length<=bn:=by rw[<-Paired.length rel];exact z
  have hl:(putK kvs k v).length<=bn:=by have:=fc kvs k v;omega
  refine wpAny_setItem_heap (hsz:=hz) (tupleKind_room_in1 hu) (tJ I.hok eb) dd λh' dd' hs=>h _ ?_
  obtain⟨q,es,ep,hq,h2,h3,h4,_,h5⟩:=dd';refine og I (by rw[e];exact True.intro) hs ⟨q,hq⟩ ⟨hl,hd,_,(rel.put k eb rv).keeps λc ys ec=>?_,q,es,ep,hq,h2,h3,h4,h5⟩;rw[ai (Jk ec e (λz=>nomatch z))];exact ec
end
section
variable {X:Cx}{Y:MD}{U:St}{H:Hp}{s:Shared}{a:Addr}{kvs:List (Key×V)}{k:Key}{u:Value}{A:Around}{E:MC}
end
def rq {X:Cx}{a:Addr}(I:Inv X Y U H s)(g:El H a y o):s.TypeIs (.ref a) "dict":=by
 rcases g with⟨kvs,k,e,_,_⟩|⟨kvs,k,b,e,_,_,_⟩
 .obtain⟨_,_,vs,_,dd⟩:=nA I.hok e;exact dd.typeIs
 .obtain⟨_,_,xs,_,dd⟩:=zA I.hok e;exact dd.typeIs
section
variable {X:Cx}{o i e value:Expr}{pos pos' tpos:Pos}{td ty tv:TE}
end
def qk (h:Heap)(hb:sysModules<h.objs.size):aS P w H (h.push { cls:=.type "dict",data:=.dict #[] }) h.objs.size (.dK []):=
 ⟨Nat.zero_le _,beq_eq_false_iff_ne.mpr (Ne.symm (pi hb)),[],.nil,Heap.DictOf.new h⟩
abbrev Ed:TE:=λ_ H Q=>∀ p,H p=none->Q (.ref p) (upd H p (.dK []))
section
variable {X:Cx}{pos:Pos}
def zq:PE X (.Dict [] [] pos) Ed:=λY s U H Q I h=>
 wpAny_Dict_empty ⟨.ref s.heap.objs.size,_,I.laid (a:=s.heap.objs.size) (o:=.dK []) (t':=s.toks) (λ_ _ q=>ul _ q) (re _) (qk s.heap I.big),rfl,h _ (I.hok.fresh (re _))⟩
end
section
variable {X:Cx}{Y:MD}{U:St}{H:Hp}{s:Shared}{a:Addr}{y d:V}{u r:Value}{o:Option V}{A:Around}{E:MC}
end
section
variable {X:Cx}{o e f:Expr}{apos cpos:Pos}{td ty tx:TE}
end
section
variable {X:Cx}{Y:MD}{U:St}{H:Hp}{s:Shared}{a:Addr}{kvs:List (Key×V)}{A:Around}{E:MC}
end
section
variable {X:Cx}{Y:MD}{U:St}{H:Hp}{s:Shared}{a:Addr}{y:V}{u:Value}{A:Around}{E:MC}
end
end L2
namespace Att
open PySem PySem.W PySem.Calls PyProof.Rows
variable {P:Params}
def jO {h:Heap}:∀ (ns:List Int) (vs:List Value),WellAll P h vs (ns.map WData.int)->IntsAre vs ns:=by
 intro ns
 induction ns with
 |nil=>
  intro vs w;rw[List.map_nil]at w;cases w;exact .nil
 |cons n ns ih=>
  intro vs w;rw[map_cons]at w;cases w with
  |cons a b=>
   cases a;exact .cons _ _ (ih _ b)
variable {l:OpenLaw}
def wN {n:Nat}(hn:l.most=some n){h:Heap}{args:List WData}{vals:List Value}
  (hpre:l.row.toRowW.claim.pre args=true) (hwl:WellAll P h vals args):
  ∃ a vs ns,vals=[Value.ref a]/\args=[WData.list (ns.map WData.int)]/\h.get? a=some { cls:=.type "list",data:=.seq vs.toArray }/\IntsAre vs ns/\ns.length<=n:=by
 have hsh:WShape.hasAll [] args [.list .int]=true:=(pre_splitW hpre).1;have hc:l.pre.holds [] { args:=args }=true:=(pre_splitW hpre).2;obtain⟨d,r,rfl,h1,h2⟩:=hasAllW_cons hsh;obtain rfl:=hasAllW_nil h2;obtain⟨xs,rfl,h3⟩:=hasW_list h1;obtain⟨ns,rfl⟩:=items_int h3;have hlen:ns.length<=n:=by
  unfold OpenLaw.pre at hc;have h4:(WTm.not (.lt (.lit (.int (n:Int))) (.len (.arg 0)))).holds [] { args:=[.list (ns.map .int)] }=true:=by
   have h4:=(holds_andW hc).1;rw[hn]at h4;exact h4
  have h5:=condW_of h4 (w_not (w_lt w_lit (w_len_list (w_arg rfl))));rw[ce]at h5;refine Nat.le_of_not_lt λq=>?_
  have q':(n:Int)<((ns.length:Nat):Int):=by omega
  first
   |(rw[decide_eq_true q']at h5;exact absurd h5 (by decide))
   |(simp at h5;omega)
 cases hwl with
 |cons w1 w2=>
  cases w2;cases w1 with
  |list ho hall=>exact⟨_,_,ns,rfl,rfl,ho,jO ns _ hall,hlen⟩
def vI (l:OpenLaw)(args:List WData):l.row.toRowW.claim.post args (.bool true) args=true:=
 postW_of (r:=l.row.toRowW) (X:=(true ==true))
  (show WShape.has [] (.bool true) .bool=true by first|rfl|decide|simp[WShape.has,WShape.arms,WShape.armsAll])
  (show(WTm.eq .res (.lit (.bool true))).value [] { args:=args,res:=some (.bool true),after:=args }=some (.bool (true ==true)) from w_eq_bool (w_res rfl) w_lit) rfl
def pO {n:Nat}{q:Program}{loose:List Str}{XP:(Str->Option Value)->Heap->Prop}{YP:World->Heap->Prop}{d:DefRec}
  (hn:l.most=some n) (hdf:d.params.defaults=[])
  (call:∀ (w:World) (s₀ s₁:Shared) (mg mb:ME) (fa:Addr) (o:Obj) (pm cd doc:Value) (a:Addr) (vs:List Value) (ns:List Int),
   Ground q loose [] XP w s₀ mg mb s₁.heap->YP w s₁.heap->
   s₁.heap.get? fa=some o->o.data=.func (docDef d.name d.params d.body d.scope pm cd doc)->s₁.heap.CodeRec cd d.name->mg d.name=some (.ref fa)->
   s₁.heap.get? a=some { cls:=.type "list",data:=.seq vs.toArray }->IntsAre vs ns->ns.length<=n->s₁.gens=#[]->
   codeAny (model l.prog w) callerA (.call (.ref fa) ⟨[.ref a],[]⟩) (λr s'=>r=.ok (.ret (.bool true))/\OldK s₁.heap s'.heap/\s'.os=s₁.os/\AllBare s'.gens) s₁):
  WalkO q loose XP YP l.row.toRowW d [] (λf vs=>PySem.call f vs):=by
 intro w s₀ s₁ mg mb G Y fa o pm cd doc dV kV ho hd hcd hD hmg hg args vals as hpre hlay hrd hwl hlo;obtain rfl:dV=.none:=Dflts.none hD hdf;obtain rfl:kV=.none:=Dflts.noKw hD;obtain⟨a,vs,ns,rfl,rfl,hobj,hints,hlen⟩:=wN hn hpre hwl;refine enter_call (codeAny_mono (call w s₀ s₁ mg mb fa o pm cd doc a vs ns G Y ho (fd_plain hd) hcd hmg hobj hints hlen hg) λr s' hq=>?_);obtain⟨rfl,h2,h3,h4⟩:=hq;exact⟨.inl ⟨.bool true,.bool true,[],rfl,λ_=>rfl,.bool true,vI l _,λ_=>⟨List.Pairwise.nil,λ_ hm=>(nomatch hm)⟩⟩,h2,h3,h4⟩
section
variable {prog:Program}{w:World}{A:Around}{E:MC}{s:Shared}{K:Frag}
end
end Att
namespace L2
open PySem PySem.Spec PyProof.Rows
def nD:∀ {vs:List Value}{ns:List Int},IntsAre vs ns->Vals (ns.map V.int) vs
 |_,_,.nil=>.nil
 |_,_,.cons n t h=>.cons ⟨t,rfl⟩ (nD h)
abbrev FE (H:Hp):Prop:=∀ b,H b=none\/∃ o xs,H b=some (.frz o (.lst xs))
def yL {P:Program}{w:World}{K:W.Frag}{mg mb:ME}{CX:tW}{k:Nat}{fa a:Addr}{fd:FuncData}{x:Str}{sp:Sp}{s₁:Shared}{vs:List Value}{ns:List Int}
  (KX:K.In s₁.heap) (hns:s₁.heap.Ns mainGlobals mg) (hb:s₁.heap.Ns builtinsNs mb) (hbb:∀ x:Str,x≠"__name__"->mb x=bootBuiltins x) (hlim:s₁.heap.NoLimit) (hg:s₁.gens=#[])
  (ha:s₁.heap.get? a=some { cls:=.type "list",data:=.seq vs.toArray }) (hi:IntsAre vs ns) (hl:ns.length<=bn) (hr:bZ k callerA)
  (F:∀ base:Heap,K.In base->base.Ns mainGlobals mg->dy P w K mg base CX k fa fd [x] sp) (hbind:∀ (s:Shared) (u:Value),BindsTo s fd ⟨[u],[]⟩ [(x,u)])
  (hsp:∀ H:Hp,FE H->aU K H a (ns.map V.int)->sp [.ref a] H (λv _=>v=.bl true) λ_ _=>False)
  (hCX:∀ H e s',CX [] H s₁ (λ_ _=>False) e s'->False):
  codeAny (model P w) callerA (.call (.ref fa) ⟨[.ref a],[]⟩) (λr s'=>r=.ok (.ret (.bool true))/\OldK s₁.heap s'.heap/\s'.os=s₁.os/\AllBare s'.gens) s₁:=by
 have rv:=nD hi;have lenV:=hi.length;have core:∀ H:Hp,FE H->aU K H a (ns.map V.int)->gb P w H s₁.heap->(∀ b,H b≠none->b=a)->(H a≠none->K.lookup a=none)->
   codeAny (model P w) callerA (.call (.ref fa) ⟨[.ref a],[]⟩) (λr s'=>r=.ok (.ret (.bool true))/\OldK s₁.heap s'.heap/\s'.os=s₁.os/\AllBare s'.gens) s₁:=by
  intro H hO hS hok hA hK;have base_of:∀ {b:Addr}{o:Obj},s₁.heap.get? b=some o->H b=none->(oH s₁.heap H).get? b=some o:=λe n=>yB e n
  have noA:∀ {b:Addr}{o:Obj}{es:Array DictEntry}{ep:Nat},s₁.heap.get? b=some o->o.data=.dict es ep->H b=none:=λ{b o es ep} e d=>by
   cases q:H b with
   |none=>rfl
   |some u=>
    have e':b=a:=hA b (by rw[q];simp);subst e';rw[ha]at e;cases e;have d':Data.seq vs.toArray _=Data.dict es ep:=d;cases d'
  have nsK:∀ {b:Addr}{m:ME},s₁.heap.Ns b m->(oH s₁.heap H).Ns b m:=λ{b m} ⟨o,es,ep,e,d,r⟩=>⟨o,es,ep,base_of e (noA e d),d,r⟩
  have hKb:K.In (oH s₁.heap H):=λb o e=>base_of (KX b o e) (by
   cases q:H b with
   |none=>rfl
   |some u=>
    have e':b=a:=hA b (by rw[q];simp);subst e';rw[hK (by rw[q];simp)]at e;cases e)
  have hM:Mod K mg (oH s₁.heap H):=⟨hKb,nsK hns,⟨mb,nsK hb,hbb⟩,let⟨mc,h1,h2⟩:=hlim;⟨mc,nsK h1,h2⟩⟩;have e0:sD P w K mg (oH s₁.heap H) callerA [] s₁ H:=⟨rfl,hM,λb o e=>BE e,Nat.le_of_eq (v8 _ _),trivial,λb hb=>absurd (show b ∈ ([]:List Addr) from hb) (by simp),hok,.of_eq hg⟩;refine codeAny_mono ((F _ hKb (nsK hns)).run callerA [] s₁ H ⟨[.ref a],[]⟩ [.ref a] [.ref a] _ _ hr e0 (hbind s₁ (.ref a)) (.cons rfl .nil) (hsp H hO hS)) λr s' h=>?_
  cases r with
  |error e=>exact(hCX H e s' h).elim
  |ok fl=>
   cases fl with
   |next=>exact False.elim h
   |brk=>exact False.elim h
   |cont=>exact False.elim h
   |ret u=>
    obtain⟨v,H',os,bare,un,hok',r',q⟩:=h;have q':v=.bl true:=q;subst q';obtain rfl:u=Value.bool true:=r';refine⟨rfl,OldK.of_keep λb o e=>?_,os,bare⟩;cases q:H b with
    |none=>exact un.keep b o e q (by intro z;exact absurd (show b ∈ ([]:List Addr) from z) (by simp)) (by simp)
    |some u=>
     rcases hO b with z|⟨ob,xs,z⟩
     .rw[q]at z;cases z
     .have z2:=un.frzs b ob _ z;obtain⟨e1,_⟩:=hok b _ z;obtain⟨e2,_⟩:=hok' b _ z2;rw[e]at e1;cases e1;exact e2
 cases hk:K.lookup a with
 |some o=>
  have e:=KX a o hk;rw[ha]at e;cases e;refine core (λ_=>none) (λ_=>.inl rfl) (.inr ⟨_,vs.toArray,_,hk,rfl,rfl,rfl,by rw[ii,lenV];exact hl,by simpa using rv⟩) (λb u z=>by have z':(none:Option HO)=some u:=z;cases z') (λb z=>absurd rfl z) λz=>absurd rfl z
 |none=>
  refine core (λb=>if b=a then some (.frz { cls:=.type "list",data:=.seq vs.toArray } (.lst (ns.map V.int))) else none) (λb=>?_) (.inl (.inr ⟨{ cls:=.type "list",data:=.seq vs.toArray },if_pos rfl⟩)) (λb u z=>?_) (λb z=>?_) λ_=>hk
  .by_cases hb:b=a
   .exact .inr ⟨_,_,if_pos hb⟩
   .exact .inl (if_neg hb)
  .by_cases hb:b=a
   .have z':=(if_pos hb).symm.trans z;cases z';subst hb;exact⟨ha,by rw[ce];exact hl,vs,_,rv,ha⟩
   .have z':=(if_neg hb).symm.trans z;cases z'
  .by_cases hb:b=a
   .exact hb
   .exact absurd (if_neg hb) z
def BD {l:W.OpenLaw}{n k:Nat}{q:Program}{loose:List Str}{XP:(Str->Option Value)->Heap->Prop}{YP:World->Heap->Prop}{d:DefRec}{K:Params->W.Frag}{CX:World->tW}{sp:World->Sp}{x:Str}
  (hn:l.most=some n) (hn2:n<=bn) (hdf:d.params.defaults=[]) (hr:bZ k callerA)
  (hY:∀ (w:World) (h:Heap),YP w h->(K w.params).In h)
  (F:∀ (w:World) (mg:ME) (fa:Addr) (h:Heap),(K w.params).In h->h.Ns mainGlobals mg->mg d.name=some (.ref fa)->
   ∃ fd:FuncData,(∀ (s:Shared) (u:Value),BindsTo s fd ⟨[u],[]⟩ [(x,u)])/\
    ∀ base:Heap,(K w.params).In base->base.Ns mainGlobals mg->dy l.prog w (K w.params) mg base (CX w) k fa fd [x] (sp w))
  (hsp:∀ (w:World) (H:Hp) (a:Addr) (ns:List Int),ns.length<=n->FE H->aU (K w.params) H a (ns.map V.int)->sp w [.ref a] H (λv _=>v=.bl true) λ_ _=>False)
  (hCX:∀ (w:World) (H:Hp) (s:Shared) (e:Value) (s':Shared),CX w [] H s (λ_ _=>False) e s'->False):
  W.WalkO q loose XP YP l.row.toRowW d [] (λf vs=>PySem.call f vs):=by
 refine Att.pO hn hdf λw s₀ s₁ mg mb fa o pm cd doc a vs ns G Y ho hd hcd hmg hobj hints hlen hg=>?_
 have KX:=hY w _ Y;obtain⟨fd,hb,hF⟩:=F w mg fa _ KX G.T.g hmg;exact yL KX G.T.g G.T.b G.T.builtins G.T.nolimit hg hobj hints (Nat.le_trans hlen hn2) hr hF hb (λH hO hS=>hsp w H a ns hlen hO hS) λH e s'=>hCX w H s₁ e s'
section
variable {P:Program}{w:World}{K:W.Frag}{mg:ME}{base:Heap}
end
def dc {n:Nat}(h:n<=1000):n<bn:=Nat.lt_of_le_of_lt h (by decide)
section
variable {X:Cx}
end
end L2
namespace L2
open PySem PySem.Spec PySem.W PyProof.Rows PySem.Builtin PySem.Builtin.ObjectAttr
variable {rs:List Addr}
section
variable {prog:Program}{w:World}{A:Around}{E:MC}{s:Shared}{K:W.Frag}{x C:Addr}{ox od:Obj}{name:Str}{expr:Bool}{v:Value}{Q:MC}
def qb:builtinKind "BaseException.__getattribute__"=some .slot:=by decide+kernel
def nc:splitId "BaseException.__getattribute__"=some ("BaseException","__getattribute__"):=by decide+kernel
def B2 (X:K.In s.heap)(I:W.InstAt s.heap x ox C (some od))(hga:W.findIn K (.ref C) "__getattribute__"=some (some (.builtin "BaseException.__getattribute__"))) (hgn:W.findIn K (.ref C) "__getattr__"=some none)
  (hb:W.mroIn K C (.type "BaseException")=some true) (hf:W.findObj K C (some od) name=some (.value v)) (hh:W.handedIn v=true) (h:Q v { s with toks:=s.toks+1 }):
  wpAny (model prog w) A (getAttr (.ref x) name expr) Q E s:=by
 obtain⟨hp,g,d,t,os⟩:=s;have L0:=I.type (M:=model prog w);have L1:=looks_findIn (M:=model prog w) X hga;have L2':=looks_findIn (M:=model prog w) X hgn;have L3:=looks_find (M:=model prog w) X I hf;have L4:Looks (model prog w) hp (isInstance (.ref x) (.type "BaseException")) true:=I.type.andThen (looks_mroIn X hb);unfold getAttr getAttrBy;refine ad (wpAny_mkText (bd (ad (L0.at (ad (L1.at ?_))))));have e1:(Value.builtin "BaseException.__getattribute__" ==Value.builtin "object.__getattribute__")=false:=by decide+kernel
 dsimp only;rw[e1,Bool.and_false];show wpAny _ _ (getAttrByItsOwn _ _ _ _ _ _) _ _ _;unfold getAttrByItsOwn hookBefore;refine ad (L2'.at ?_);refine ad (wpAny_attempt (bd ?_));have e2:(expr&&onTheHeap (Value.builtin "BaseException.__getattribute__"))=false:=by cases expr<;>rfl
 unfold callGetattribute;rw[e2];show wpAny _ _ (boundAndCalled _ _ _) _ _ _;unfold boundAndCalled;rw[PySem.F.attr_ValueError.ga.bind];refine ad (am (wpAny_call (codeAny_call_builtin PySem.F.attr_ValueError.ga.plain PySem.F.entry_bexc_ga ?_)));refine @check_slot (model prog w) _ _ _ "BaseException.__getattribute__" "BaseException" "__getattribute__" (.ref x) [.str name t] [] _ qb nc L4 (PySem.F.args_bexc_ga (.ref x) (.str name t)) ?_;unfold Builtin.«object.__getattribute__»;refine ad (am (ad (am (ad (L0.at (ad (L3.at ?_)))))));refine am ?_;show wpAny _ _ (handedOut v) _ _ _;rw[handedOut_of hh];exact am h
abbrev ym:Value->Bool
 | .ref _=>true
 |_=>false
abbrev cb:List Value:=[.type "ValueError",.type "Exception",.type "BaseException",.type "object"]
abbrev dE (l:List Value):Bool:=l.dropWhile ym ==cb
def dO:∀ {l:List Value},dE l=true->∃ rs:List Addr,l=rs.map Value.ref++cb
 | [],e=>by cases e
 |c::r,e=>by
  by_cases h:ym c=true
  .have e':dE r=true:=by
    unfold dE at e⊢;rw[List.dropWhile_cons_of_pos h]at e;exact e
   obtain⟨rs,q⟩:=dO e';cases c with
   |ref a=>exact⟨a::rs,by rw[q];rfl⟩
   |_=>cases h
  .unfold dE at e;rw[List.dropWhile_cons_of_neg h]at e;exact⟨[],beq_iff_eq.mp e⟩
def kI (self:Value):∀ rs:List Addr,refuseLoop self "__setattr__" (rs.map Value.ref++cb)=pure ()
 | []=>PySem.F.store_ValueError.passes self
 |a::r=>by rw[map_cons,List.cons_append,refuseLoop_ref];exact kI self r
structure cU (K:W.Frag) (C:Addr):Prop where
 mt:W.typeIn K (.ref C)=some (.type "type")
 ov:(W.clsIn K C).any (λcd=>dE cd.mro)=true
 hd:W.hasDictIn K C=true
 ga:W.findIn K (.ref C) "__getattribute__"=some (some (.builtin "BaseException.__getattribute__"))
 gn:W.findIn K (.ref C) "__getattr__"=some none
 sa:W.findIn K (.ref C) "__setattr__"=some (some (.builtin "object.__setattr__"))
def cU.mro {K:W.Frag}(c:cU K C):∃ (cd:ClassData) (rs:List Addr),W.clsIn K C=some cd/\cd.mro=rs.map Value.ref++cb:=by
 obtain⟨cd,h1,h2⟩:=W.any_some c.ov;obtain⟨rs,h3⟩:=dO h2;exact⟨cd,rs,h1,h3⟩
def qV (h:cb.contains v=true):(rs.map Value.ref++cb).contains v=true:=by
 rw[List.contains_eq_mem,decide_eq_true_eq]at h⊢;exact im _ h
def tX:(rs.map Value.ref++cb).isEmpty=false:=by cases rs<;>rfl
def cU.sub {K:W.Frag}(c:cU K C)(h:cb.contains v=true):W.mroIn K C v=some true:=by
 obtain⟨cd,rs,h1,h2⟩:=c.mro;unfold W.mroIn;rw[h1,Option.bind_some,h2,if_neg (by rw[tX];decide),qV h]
variable {R:Result->Shared->Prop}
def qB {tk:Tok}{odo:Option Obj}(X:K.In s.heap)(I:W.InstAt s.heap x ox C odo)(c:cU K C)(ht:W.findIn K (.ref C) name=some none)
  (h:wpAny (model prog w) A.in1 (storeInOwnDict (.ref x) (.ref C) (.str name tk) name v false)
   (λfin s'=>match fin with| .done f=>R (.ok f) s'| .again c'=>c'.quiet=true/\codeAny (model prog w) A c' R s') (λe s'=>R (.error e) s') s):
  codeAny (model prog w) A (.call (.builtin "object.__setattr__") ⟨[.ref x,.str name tk,v],[]⟩) R s:=by
 have SF:=PySem.F.store_object;obtain⟨cd,rs,hc,hm⟩:=c.mro;have sub:Looks (model prog w) s.heap (isInstance (.ref x) (.type "object")) true:=I.type.andThen (looks_mroIn X (c.sub (by decide+kernel)));refine codeAny_call_builtin SF.slot.plain SF.entry (@check_slot (model prog w) _ _ s "object.__setattr__" "object" "__setattr__" (.ref x) [.str name tk,v] [] _ SF.kind SF.split sub (SF.args (.ref x) (.str name tk) v) ?_);have hl:Looks (model prog w) s.heap (mroOf (.ref C)) cd.mro:=(looks_clsIn X hc).andThen .now;rw[osa_eq,refuse_eq];refine ad (ad (I.type.here (ad (hl.here ?_))));rw[hm,kI];refine am (ad (I.type.here (ad ((looks_findIn X ht).here (ad (am ?_))))));exact h
end
variable {Q:MC}{u:Value}
section
variable {X:Cx}{Y:MD}{U:St}{H:Hp}{s:Shared}{a C dx:Addr}{fs:List (Str×V)}{f:Str}{v:V}{A:Around}{E:MC}{fr:Bool}
def wF {b:Bool}(I:Inv X Y U H s)(e:H a=some (.exc C (some dx) fs fr))(c:cU X.K C)(n:fm X.K C f)(l:fs.lookup f=some v)
  (h:∀ u s',Inv X Y U H s'->RelV v u->Q u s'):wpAny (model X.prog X.w) A (getAttr (.ref a) f b) Q E s:=by
 obtain⟨⟨vs,ho,_⟩,z⟩:=I.hok a _ e;rcases z with⟨z,_⟩|⟨d,ed,_,_,_,mA,hn,r,_⟩
 .cases z
 cases ed;obtain⟨u,hu,ru⟩:=dr.some_of (v:=v) (o:=mA f) (by rw[<-l];exact r f);obtain⟨od,hod,hl⟩:=iN hn;refine B2 (ox:={ cls:=.ref C,dict:=some dx,data:=.fields vs }) (od:=od) I.b9 ⟨ho,rfl,rfl,hod⟩ c.ga c.gn (c.sub (by decide+kernel)) (W.findObj_own c.hd n rfl (by rw[hl,hu])) (mV ru) (h u _ (I.tok _) ru)
def tj {y:V}{Q:MB}(I:Inv X Y U H s)(e:H a=some (.exc C (some dx) fs fr))(c:cU X.K C)(n:fm X.K C f)(hl:fs.length<1000)(ry:RelV y u)
  (h:∀ s',Inv X Y U (upd H a (.exc C (some dx) (cS f y fs) fr)) s'->Q () s'):wpAny (model X.prog X.w) A (setAttr (.ref a) f u) Q E s:=by
 obtain⟨⟨vs,ho,zz⟩,z⟩:=id (I.hok a _ e);rcases z with⟨z,_⟩|⟨d,ed,hown,_,hne,mA,hn,r,wi⟩
 .cases z
 cases ed;obtain⟨od,hod,hlk⟩:=iN hn;have hz:(fs.map (·.1)).length<=bn:=by rw[ce,sizeLine_eq];omega
 have J:W.InstAt s.heap a { cls:=.ref C,dict:=some dx,data:=.fields vs } C (some od):=⟨ho,rfl,rfl,hod⟩;refine W.set_plain I.b9 J c.sa (qB (s:={ s with toks:=s.toks+1 }) I.b9 J c n ?_);obtain⟨cd,hc,hd'⟩:=W.any_some c.hd;refine ad (am (ad (ad (wpAny_loadPart ho (ad (W.Looks.here (s:={ s with toks:=s.toks+1 }) (W.looks_clsIn I.b9 hc) ?_))))));rw[hd'];refine am (a:=some dx) (ad (am (ad ?_)));refine wpAny_nsSet1 (s:={ s with toks:=s.toks+1 }) hn λh' hn2 hs2=>?_
 obtain⟨oD,esD,epD,hoD,hdD,hcD⟩:=hn2.count (PySem.Within.cons f u wi);refine ad (wpAny_lookBehind hoD (by rw[hdD];exact pastItsLine_dict (Nat.le_trans hcD (by rw[length_cons];omega))) ?_);refine am (h _ ?_);refine I.write (x:=a) (e:=dx) (by rw[e];exact True.intro) (.inr hown) (λb q hb z=>(hs2.2 b hb).trans z) ⟨oD,hoD⟩ ?_;refine⟨⟨vs,(hs2.2 _ (Ne.symm hne)).trans ho,zz⟩,.inr ⟨dx,rfl,by rw[ai hne];exact hown,?_,hne,_,hn2,λg=>?_,λg hg=>?_⟩⟩
 .have:=eA f y fs;omega
 .show dr ((cS f y fs).lookup g) (if g=f then some u else mA g);rw[eZ]
  by_cases q:g=f
  .rw[if_pos q,if_pos q];exact ry
  .rw[if_neg q,if_neg q];exact r g
 .by_cases q:g=f
  .rw[q];exact(di f y fs).1
  .refine(di f y fs).2 g (wi g λz=>hg ?_);show(if g=f then some u else mA g)=none;rw[if_neg q];exact z
def sX {y:V}{Q:MB}(I:Inv X Y U H s)(e:H a=some (.exc C none fs fr))(c:cU X.K C)(n:fm X.K C f)(ry:RelV y u)
  (h:∀ d s',H d=none->Inv X Y U (upd (upd H d (.own a)) a (.exc C (some d) [(f,y)] fr)) s'->Q () s'):wpAny (model X.prog X.w) A (setAttr (.ref a) f u) Q E s:=by
 obtain⟨⟨vs,ho,zz⟩,z⟩:=id (I.hok a _ e);have hfs:fs=[]:=by
  rcases z with⟨_,z⟩|⟨d,ed,_⟩
  .exact z
  .cases ed
 subst hfs;have J:W.InstAt s.heap a { cls:=.ref C,dict:=none,data:=.fields vs } C none:=⟨ho,rfl,rfl,True.intro⟩;refine W.set_plain I.b9 J c.sa (qB (s:={ s with toks:=s.toks+1 }) I.b9 J c n ?_);obtain⟨cd,hc,hd'⟩:=W.any_some c.hd;refine ad (am (ad (ad (wpAny_loadPart ho (ad (W.Looks.here (s:={ s with toks:=s.toks+1 }) (W.looks_clsIn I.b9 hc) ?_))))));rw[hd'];have hlt:=ut ho;have hxs:a≠s.heap.objs.size:=pi hlt;have ho1:(s.heap.push { cls:=.type "dict",data:=.dict #[] }).get? a=some { cls:=.ref C,dict:=none,data:=.fields vs }:=ul _ ho;refine ad (wpAny_alloc' ?_);refine ad (wpAny_update' ho1 ?_);refine am ?_;have hgd:((s.heap.push { cls:=.type "dict",data:=.dict #[] }).update a λo=>{ o with dict:=some s.heap.objs.size }).get? s.heap.objs.size=some { cls:=.type "dict",data:=.dict #[] }:=
  (Heap.get?_update_ne _ _ _ _ hxs.symm).trans (Heap.get?_push_at rfl rfl)
 have hga:((s.heap.push { cls:=.type "dict",data:=.dict #[] }).update a λo=>{ o with dict:=some s.heap.objs.size }).get? a=some { cls:=.ref C,dict:=some s.heap.objs.size,data:=.fields vs }:=
  Heap.get?_update_self _ ho1 rfl
 have hnd:((s.heap.push { cls:=.type "dict",data:=.dict #[] }).update a λo=>{ o with dict:=some s.heap.objs.size }).Ns s.heap.objs.size (λ_=>none):=
  ⟨_,#[],_,hgd,rfl,λe he=>absurd he (by simp),λ_=>rfl⟩
 show wpAny _ _ (storeInDict s.heap.objs.size (.str f _) f u) _ _ _;unfold storeInDict newKeyGuard;refine ad (am (ad (wpAny_nsSet1 (Heap.Ns1.of_empty hnd) λh' hn2 hs2=>?_)));obtain⟨oD,esD,epD,hoD,hdD,hcD⟩:=hn2.count (PySem.Within.cons f u PySem.Within.nil);refine ad (wpAny_lookBehind hoD (by rw[hdD];exact pastItsLine_dict (Nat.le_trans hcD (by rw[length_cons,length_nil,sizeLine_eq];omega))) ?_);have hd0:H s.heap.objs.size=none:=I.hok.fresh (re _);refine am (h s.heap.objs.size _ hd0 ?_);have e':upd H s.heap.objs.size (.own a) a=some (.exc C none [] fr):=by rw[ai hxs];exact e
 have I1:Inv X Y U (upd H s.heap.objs.size (.own a)) { s with heap:=s.heap.push { cls:=.type "dict",data:=.dict #[] },toks:=s.toks+1 }:=
  I.laid (a:=s.heap.objs.size) (o:=.own a) (t':=s.toks+1) (λb u q=>ul _ q) (re _) ⟨_,v6 s.heap rfl⟩
 have I2:=I1.write (x:=a) (e:=a) (o:=.exc C (some s.heap.objs.size) [] fr) (t':=s.toks+1) (h':=(s.heap.push { cls:=.type "dict",data:=.dict #[] }).update a λo=>{ o with dict:=some s.heap.objs.size })
  (by rw[e'];exact True.intro) (.inl rfl) (λb q hb z=>(Heap.get?_update_ne _ _ _ _ hb).trans z) ⟨_,hga⟩
  ⟨⟨vs,hga,zz⟩,.inr ⟨_,rfl,by rw[ai hxs.symm,az],Nat.zero_le _,hxs.symm,_,Heap.Ns1.of_empty hnd,λ_=>True.intro,λy hy=>absurd rfl hy⟩⟩
 have ga':h'.get? a=some { cls:=.ref C,dict:=some s.heap.objs.size,data:=.fields vs }:=(hs2.2 a hxs).trans hga;have I3:=I2.write (x:=a) (e:=s.heap.objs.size) (o:=.exc C (some s.heap.objs.size) [(f,y)] fr) (t':=s.toks+1+1) (h':=h') (by rw[az];exact True.intro) (.inr (by rw[ai hxs.symm,az]))
  (λb q hb z=>(hs2.2 b hb).trans z) ⟨oD,hoD⟩
  ⟨⟨vs,ga',zz⟩,.inr ⟨_,rfl,by rw[ai hxs.symm,ai hxs.symm,az],by show 1<=1000;decide,hxs.symm,_,hn2,λg=>?_,λg hg=>?_⟩⟩
 .rw[Bl]at I3;exact I3
 .show dr (List.lookup g [(f,y)]) (if g=f then some u else none)
  by_cases q:g=f
  .have hb:(g ==f)=true:=beq_iff_eq.mpr q;simp only[List.lookup,hb,if_pos q];exact ry
  .have hb:(g ==f)=false:=beq_eq_false_iff_ne.mpr q;simp only[List.lookup,hb,if_neg q];exact True.intro
 .by_cases q:g=f
  .rw[q];simp
  .exact absurd (show(if g=f then some u else none)=none by rw[if_neg q]) hg
end
section
variable {X:Cx}{Y:MD}{U:St}{H:Hp}{s:Shared}{a C:Addr}{dx:Option Addr}{fs:List (Str×V)}{f:Str}{v:V}{A:Around}{E:MC}{fr:Bool}
def Inv.fields {vs':Array Value}{h':Heap}{t':Nat}(I:Inv X Y U H s)(e:H a=some (.exc C dx fs fr))(hs:vs'.size=6)(h1:fr=true->vs'[1]? =some Value.none)
  (ha:h'.get? a=some { cls:=.ref C,dict:=dx,data:=.fields vs' }) (k:∀ b u,b≠a->s.heap.get? b=some u->h'.get? b=some u):Inv X Y U H { s with heap:=h',toks:=t' }:=by
 have I2:=I.write (x:=a) (e:=a) (o:=.exc C dx fs fr) (t':=t') (h':=h') (by rw[e];exact True.intro) (.inl rfl) k ⟨_,ha⟩ ?_
 .have:upd H a (.exc C dx fs fr)=H:=by
   funext b
   by_cases hb:b=a
   .rw[hb,az,e]
   .rw[ai hb]
  rw[this]at I2;exact I2
 .obtain⟨_,z⟩:=id (I.hok a _ e);refine⟨⟨vs',ha,hs,h1⟩,?_⟩;rcases z with z|⟨d,ed,d1,z1,ne,mA,⟨od,es,ep,e2,c⟩,r⟩
  .exact .inl z
  .exact .inr ⟨d,ed,by rw[ai ne];exact d1,z1,ne,mA,⟨od,es,ep,k _ _ ne e2,c⟩,r⟩
def ku {R:Result->Shared->Prop}(I:Inv X Y U H s)(e:H a=some (.exc C dx fs fr))(c:cU X.K C)
  (h:∀ s',Inv X Y U H s'->R (.ok (.ret .none)) s'):codeAny (model X.prog X.w) A (.call (.builtin "ValueError.__init__") ⟨[.ref a,u],[]⟩) R s:=by
 have F:=PySem.F.excCall_ValueError;obtain⟨⟨vs,ho,hsz,h1⟩,z⟩:=id (I.hok a _ e);have L4:Looks (model X.prog X.w) s.heap (isInstance (.ref a) (.type "ValueError")) true:=(show Looks (model X.prog X.w) s.heap (typeOf (.ref a)) (.ref C) from(Looks.ld ho).andThen .now).andThen (looks_mroIn I.b9 (c.sub (by decide+kernel)));refine codeAny_call_builtin F.init.plain F.initEntry ?_;simp only[checkBuiltinCall,F.initKind,F.initSplit,F.initRow];refine ad (L4.here ?_);simp only[Bool.not_true,Bool.false_eq_true,if_false];have hshort:("ValueError" != "*")=true:=by decide
 have h0:∃ a0,vs[0]? =some a0:=⟨_,Array.getElem?_eq_getElem nofun⟩;obtain⟨a0,h0⟩:=h0;obtain⟨hp,g,d,t,os⟩:=s;unfold Bind.checkArgs;have hn:Looks (model X.prog X.w) hp (typeOf (.ref a)) (.ref C):=(Looks.ld ho).andThen .now;obtain⟨cd,rs,hcl,_⟩:=c.mro;obtain⟨oc,od,sl,hC⟩:∃ oc od sl,hp.get? C=some ⟨oc,od,.cls cd,sl⟩:=by
  unfold W.clsIn at hcl
  split at hcl
  .rename_i ho';cases hcl;exact⟨_,_,_,I.b9 _ _ ho'⟩
  .cases hcl
 repeat(first|with_reducible refine wpAny_load hC ?_|wp_step)
 rw[h0];have ho1:(hp.push { cls:=.type "tuple",data:=.seq #[u] }).get? a=some { cls:=.ref C,dict:=dx,data:=.fields vs }:=ul _ ho;have hq:=Heap.get?_update_self (Obj.mapFields (·.setIfInBounds 0 (.ref hp.objs.size))) ho1 (Obj.isFreed_of_fields (Obj.data_mapFields rfl _));have fin:R (.ok (.ret Value.none)) ⟨(hp.push { cls:=.type "tuple",data:=.seq #[u] }).update a (Obj.mapFields (·.setIfInBounds 0 (.ref hp.objs.size))),g,d,t,os⟩:=by
  refine h _ (I.fields (vs':=vs.setIfInBounds 0 (.ref hp.objs.size)) (t':=t) e (by simpa using hsz) (λz=>?_) hq λb q hb z'=>?_)
  .rw[Array.getElem?_setIfInBounds_ne (by decide)];exact h1 z
  .exact(Heap.get?_update_ne _ _ _ _ hb).trans (ul _ z')
 refine am (ad (wpAny_setField ho1 rfl nofun ?_));cases a0<;>first|exact am (am fin)|exact wpAny_letGo (am fin)
def rS (I:Inv X Y U H s)(e:H a=some (.exc C dx fs fr))(c:cU X.K C)
  (h:∀ s',Inv X Y U H s'->Q .none s'):wpAny (model X.prog X.w) A (call (.builtin "ValueError.__init__") [.ref a,u]) Q E s:=wpAny_call (ku I e c h)
end
abbrev cj (K:W.Frag)(C:Addr):Bool:=match K.lookup C with
 |some ⟨_,_,.cls cd,sl⟩=>!cd.abstract&& !cd.hasDel&&(sl.toList[4]?).join ==some (.builtin "ValueError.__new__")&&dE cd.mro&&cd.mro.contains (.ref C)&&
   W.specialIn K (.ref C) "__call__" ==some (some (.builtin "type.__call__"))&&W.instIn K (.ref C) (.type "type") ==some true
 |_=>false
structure Ab (M:Model) (h:Heap) (C:Addr):Prop where
 obj:∃ oc od cd sl,h.get? C=some ⟨oc,od,.cls cd,sl⟩/\cd.abstract=false/\cd.hasDel=false/\cd.mro.isEmpty=false
 made:W.Looks M h (Bind.madeBy (.ref C)) (some "ValueError.__new__")
 base:W.Looks M h (Bind.staticBase (.ref C)) (.ref C)
 self:W.Looks M h (isSubtype (.ref C) (.ref C)) true
 top:W.Looks M h (isSubtype (.ref C) (.type "ValueError")) true
 no1:W.Looks M h (isSubtype (.ref C) (.type "AttributeError")) false
 no2:W.Looks M h (isSubtype (.ref C) (.type "NameError")) false
 call:W.Looks M h (specialOf (.ref C) "__call__") (some (.builtin "type.__call__"))
 typ:W.Looks M h (isInstance (.ref C) (.type "type")) true
def uE {n:String}(h:cb.contains (.type n)=false):(rs.map Value.ref++cb).contains (.type n)=false:=by
 induction rs with
 |nil=>exact h
 |cons a r ih=>rw[map_cons,List.cons_append,List.contains_cons,ih];rfl
def mz {K:W.Frag}{M:Model}{h:Heap}(X:K.In h){C:Addr}(e:cj K C=true):Ab M h C:=by
 unfold cj at e
 split at e
 .rename_i oc od cd sl ho;simp only[nl,Bool.not_eq_true',beq_iff_eq]at e;obtain⟨⟨⟨⟨⟨⟨e1,e2⟩,e3⟩,e4⟩,e5⟩,e7⟩,e8⟩:=e;obtain⟨rs,em⟩:=dO e4;have hc:W.clsIn K C=some cd:=by unfold W.clsIn;rw[ho]
  have hm:Looks M h (mroOf (.ref C)) cd.mro:=(looks_clsIn X hc).andThen .now;have ne:cd.mro.isEmpty=false:=by rw[em];exact tX
  obtain⟨c,l,hl⟩:∃ c l,cd.mro=c::l:=by
   cases q:cd.mro with
   |nil=>rw[q]at ne;cases ne
   |cons c l=>exact⟨c,l,rfl⟩
  have made:Looks M h (Bind.madeBy (.ref C)) (some "ValueError.__new__"):=by
   intro A Q E s k q;unfold Bind.madeBy;refine ad (hm A _ E s k ?_);rw[hl,forIn_cons];refine ad (ad (ad (ad (wpAny_loadPart (k _ _ (X _ _ ho)) (am ?_)))));dsimp only;rw[<-Array.getElem?_toList,e3];exact am (am (am q))
  have mro:∀ {v b},cd.mro.contains v=b->W.mroIn K C v=some b:=λ{v b} q=>by
   unfold W.mroIn;rw[hc,Option.bind_some,if_neg (by rw[ne];decide),q]
  refine⟨⟨oc,od,cd,sl,X _ _ ho,e1,e2,ne⟩,made,?_,looks_mroIn X (mro e5),looks_mroIn X (mro (by rw[em];exact qV (by decide+kernel))),looks_mroIn X (mro (by rw[em];exact uE (by decide+kernel))),looks_mroIn X (mro (by rw[em];exact uE (by decide+kernel))),looks_specialIn X e7,looks_instIn X e8⟩;intro A Q E s k q;unfold Bind.staticBase;refine ad (hm A _ E s k ?_);rw[hl,forIn_cons];exact ad (ad (ad (made A _ E s k (am (am (am q))))))
 .cases e
variable {rest:List Value}
section
variable {prog:Program}{w:World}{A:Around}{K:W.Frag}{C:Addr}{R:Result->Shared->Prop}{h:Heap}{g:Array GenState}{d:Drawn}{t:Nat}{os:OsState}
def D5 (Y:Ab (model prog w) h C)(hz:rest.length<=bn)
  (hq:R (.ok (.ret (.ref (h.objs.size+1)))) ⟨(h.push { cls:=.type "tuple",data:=.seq rest.toArray }).push { cls:=.ref C,data:=.fields #[.ref h.objs.size,.none,.none,.none,.bool false,.none] },g,d,t,os⟩):
  codeAny (model prog w) A (.call (.builtin "ValueError.__new__") ⟨.ref C::rest,[]⟩) R ⟨h,g,d,t,os⟩:=by
 obtain⟨⟨oc,od,cd,sl,hC,e1,e2,e4⟩,made,base,self,top,no1,no2,call,typ⟩:=Y;have F:=PySem.F.excBase_ValueError;have here:Looks (model prog w) h (Bind.madeHere "BaseException.__new__" (.ref C)) ():=base.andThen (made.andThen (Looks.of_pure (by simp only[Option.map_some,F.canon,bne_self_eq_false,Bool.false_eq_true,if_false])));refine codeAny_call_builtin_code (Code.quiet_builtin _ F.quiet) ?_;simp only[checkBuiltinCall,F.newKind,F.newSplit,F.newRow]
 repeat(first|simp only[bne_self_eq_false,Bool.false_eq_true,if_false]|lk)
 refine codeAny_builtinAt F.entry ?_;unfold Builtin.«BaseException.__new__»;refine PySem.wpAt_bind ?_;show PySem.wpAt _ _ _ (stack >>= _) _ _ _;refine PySem.wpAt_bind (PySem.wpAt_stack λp below=>PySem.wpAt_of_wpAny ?_);have hends:=F.ends
 wp_walk
 refine PySem.wpAt_of_wpAny ?_;rw[F.owner]
 repeat(first|simp only[Bool.not_true,Bool.false_eq_true,if_false]|lk)
 rw[if_neg (show ¬ (rest.toArray.size>bn) by rw[ii];omega)];unfold newObjAsIs;refine ad (wpAny_alloc (am (ad ?_)));show wpAny _ _ (newObjAsIs _ _ _) _ _ _;unfold newObjAsIs classHasDel;refine ad (wpAny_alloc (ad (ad (wpAny_load (ul _ (ul _ hC)) (am ?_)))));rw[e2];refine am (am ?_);show R _ _;rw[Heap.size_push];exact hq
def Gp {fI:Addr}(X:K.In h)(hz:rest.length<=bn)(hm:cj K C=true)(hi:W.findIn K (.ref C) "__init__"=some (some (.ref fI))) (hf:W.typeIn K (.ref fI)=some (.type "function"))
  (hq:codeAny (model prog w) (A.under (.builtin "type.__call__" ⟨.ref C::rest,[]⟩)) (.call (.ref fI) ⟨.ref (h.objs.size+1)::rest,[]⟩) (InitBack (h.objs.size+1) R)
   ⟨(h.push { cls:=.type "tuple",data:=.seq rest.toArray }).push { cls:=.ref C,data:=.fields #[.ref h.objs.size,.none,.none,.none,.bool false,.none] },g,d,t,os⟩):
  codeAny (model prog w) A (.call (.ref C) ⟨rest,[]⟩) R ⟨h,g,d,t,os⟩:=by
 have Y:=mz (M:=model prog w) X hm;have Y':=Y;obtain⟨⟨oc,od,cd,sl,hC,e1,e2,e4⟩,made,base,self,top,no1,no2,call,typ⟩:=Y;refine codeAny_of_tree ?_;show wpAny _ _ (callAny (.ref C) _) _ _ _;refine nd_load hC ?_;show wpAny _ _ (callAny.viaDunder (.ref C) _) _ _ _;unfold callAny.viaDunder;refine ad (call.at ?_);dsimp only;rw[tc_bind];refine ad (am (ad (am ?_)));refine am (a:=Fin.again (.call (.builtin "type.__call__") ⟨.ref C::rest,[]⟩)) (And.intro rfl ?_);refine codeAny_call_builtin_at (Code.quiet_builtin _ (by decide+kernel)) entry_typeCall (check_slot tc_kind tc_split typ (tc_args _ _ _) ?_);unfold Builtin.«type.__call__»;have hmr:Looks (model prog w) h (mroOf (.ref C)) cd.mro:=((Looks.ld (part:=none) hC).andThen .now).andThen .now
 repeat(first|simp only[e4,Bool.false_eq_true,if_false]|with_reducible refine wpAny_call ?_|lk)
 refine D5 Y' hz ?_;have k:∀ b o,h.get? b=some o->((h.push { cls:=.type "tuple",data:=.seq rest.toArray }).push { cls:=.ref C,data:=.fields #[.ref h.objs.size,.none,.none,.none,.bool false,.none] }).get? b=some o:=λb o e=>ul _ (ul _ e)
 have hx:((h.push { cls:=.type "tuple",data:=.seq rest.toArray }).push { cls:=.ref C,data:=.fields #[.ref h.objs.size,.none,.none,.none,.bool false,.none] }).get? (h.objs.size+1)=some { cls:=.ref C,data:=.fields #[.ref h.objs.size,.none,.none,.none,.bool false,.none] }:=by heap_get
 have t1:Looks (model prog w) ((h.push { cls:=.type "tuple",data:=.seq rest.toArray }).push { cls:=.ref C,data:=.fields #[.ref h.objs.size,.none,.none,.none,.bool false,.none] }) (typeOf (.ref (h.objs.size+1))) (.ref C):=(Looks.ld hx).andThen .now;have s1:=self.keeps k;have i1:=(looks_findIn (M:=model prog w) X hi).keeps k;have b1:=(bind_fn (M:=model prog w) X (.ref (h.objs.size+1)) hf).keeps k;unfold isInstance callSpecial? specialOf
 repeat(first|with_reducible refine wpAny_call ?_|lk)
 refine codeAny_mono hq λr s' z=>?_
 rcases r with e|(v|_|_|_)<;>first|exact z|exact z.elim|skip
 obtain⟨rfl,z⟩:=z;exact am (am z)
def A5 (X:K.In h)(hz:rest.length<=bn)(hm:cj K C=true)(hi:W.findIn K (.ref C) "__init__"=some (some (.builtin "ValueError.__init__")))
  (hq:codeAny (model prog w) (A.under (.builtin "type.__call__" ⟨.ref C::rest,[]⟩)) (.call (.builtin "ValueError.__init__") ⟨.ref (h.objs.size+1)::rest,[]⟩) (InitBack (h.objs.size+1) R)
   ⟨(h.push { cls:=.type "tuple",data:=.seq rest.toArray }).push { cls:=.ref C,data:=.fields #[.ref h.objs.size,.none,.none,.none,.bool false,.none] },g,d,t,os⟩):
  codeAny (model prog w) A (.call (.ref C) ⟨rest,[]⟩) R ⟨h,g,d,t,os⟩:=by
 have Y:=mz (M:=model prog w) X hm;have Y':=Y;obtain⟨⟨oc,od,cd,sl,hC,e1,e2,e4⟩,made,base,self,top,no1,no2,call,typ⟩:=Y;refine codeAny_of_tree ?_;show wpAny _ _ (callAny (.ref C) _) _ _ _;refine nd_load hC ?_;show wpAny _ _ (callAny.viaDunder (.ref C) _) _ _ _;unfold callAny.viaDunder;refine ad (call.at ?_);dsimp only;rw[tc_bind];refine ad (am (ad (am ?_)));refine am (a:=Fin.again (.call (.builtin "type.__call__") ⟨.ref C::rest,[]⟩)) (And.intro rfl ?_);refine codeAny_call_builtin_at (Code.quiet_builtin _ (by decide+kernel)) entry_typeCall (check_slot tc_kind tc_split typ (tc_args _ _ _) ?_);unfold Builtin.«type.__call__»;have hmr:Looks (model prog w) h (mroOf (.ref C)) cd.mro:=((Looks.ld (part:=none) hC).andThen .now).andThen .now
 repeat(first|simp only[e4,Bool.false_eq_true,if_false]|with_reducible refine wpAny_call ?_|lk)
 refine D5 Y' hz ?_;have k:∀ b o,h.get? b=some o->((h.push { cls:=.type "tuple",data:=.seq rest.toArray }).push { cls:=.ref C,data:=.fields #[.ref h.objs.size,.none,.none,.none,.bool false,.none] }).get? b=some o:=λb o e=>ul _ (ul _ e)
 have hx:((h.push { cls:=.type "tuple",data:=.seq rest.toArray }).push { cls:=.ref C,data:=.fields #[.ref h.objs.size,.none,.none,.none,.bool false,.none] }).get? (h.objs.size+1)=some { cls:=.ref C,data:=.fields #[.ref h.objs.size,.none,.none,.none,.bool false,.none] }:=by heap_get
 have t1:Looks (model prog w) ((h.push { cls:=.type "tuple",data:=.seq rest.toArray }).push { cls:=.ref C,data:=.fields #[.ref h.objs.size,.none,.none,.none,.bool false,.none] }) (typeOf (.ref (h.objs.size+1))) (.ref C):=(Looks.ld hx).andThen .now;have s1:=self.keeps k;have i1:=(looks_findIn (M:=model prog w) X hi).keeps k;have b1:Looks (model prog w) ((h.push { cls:=.type "tuple",data:=.seq rest.toArray }).push { cls:=.ref C,data:=.fields #[.ref h.objs.size,.none,.none,.none,.bool false,.none] }) (bindSpecial (.builtin "ValueError.__init__") (.ref (h.objs.size+1))) (.builtin "ValueError.__init__",[.ref (h.objs.size+1)]):=Looks.of_pure (PySem.F.excCall_ValueError.init.bind _);unfold isInstance callSpecial? specialOf
 repeat(first|with_reducible refine wpAny_call ?_|lk)
 refine codeAny_mono hq λr s' z=>?_
 rcases r with e|(v|_|_|_)<;>first|exact z|exact z.elim|skip
 obtain⟨rfl,z⟩:=z;exact am (am z)
end
end L2
namespace L2
open PySem PySem.Spec PySem.W PyProof.Rows
abbrev bI (e:Addr)(h h':Heap):Prop:=∀ oe vs,h.get? e=some oe->oe.data=.fields vs->∃ vs',h'.get? e=some { oe with data:=.fields vs' }/\vs'.size=vs.size
abbrev FA (as:List Addr)(h h':Heap):Prop:=∀ b o,b ∉ as->h.get? b=some o->h'.get? b=some o
abbrev Av (h:Heap)(e T:Addr)(fl:Value):Prop:=∃ oe vs oT ts,h.get? e=some oe/\oe.data=.fields vs/\vs[1]? =some (.ref T)/\T≠e/\h.get? T=some oT/\oT.data=.fields ts/\ts[3]? =some fl
def bI.trans {e:Addr}{h h1 h2:Heap}(a:bI e h h1)(b:bI e h1 h2):bI e h h2:=λoe vs x y=>by
 obtain⟨vs1,x1,z1⟩:=a oe vs x y;obtain⟨vs2,x2,z2⟩:=b _ vs1 x1 rfl;exact⟨vs2,x2,z2.trans z1⟩
def bI.same {e:Addr}{h h':Heap}(k:h'.get? e=h.get? e):bI e h h':=λoe vs x y=>⟨vs,by rw[k,x,<-y],rfl⟩
variable {Q:MB}
section
variable {M:Model}{A:Around}{E:MC}{s:Shared}{base:Heap}{env:Env}{outer:List Env}{L e:Addr}
def nz {oe:Obj}{vs:Array Value}{head:Value}{hadNext:Bool}(hfr:A.frames=some (env::outer))(hl:s.heap.FunFrames base (env::outer))(hf:env.frame=some L)
  (he:s.heap.get? e=some oe) (hd:oe.data=.fields vs) (hsz:1<vs.size)
  (q:∀ h' T,s.heap.objs.size<=T->Av h' e T (rawInt L)->bI e s.heap h'->(∀ b o,b≠e->s.heap.get? b=some o->∃ sl,h'.get? b=some { o with slots:=sl })->FA (e::oA (env::outer)) s.heap h'->Q () { s with heap:=h' }):
  wpAny M A (do let a <-frameOf env;let pl <-entryPlaceOf L hadNext;let b <-EntryCells.newEntry head a .none (rawInt L) .none pl;setField (.ref e) 1 b) Q E s:=by
 have hne:e ∉ oA (env::outer):=λhm=>by
  obtain⟨_,o,ho,hnf⟩:=hl.mem hm;rw[he]at ho;cases ho;exact hnf vs hd
 refine ad (wpAny_frameOf_fun hfr hl hf λh1 s1=>ad (wpAny_entryPlaceOf λpl hpl=>?_));unfold EntryCells.newEntry newFields;refine ad (wpAny_newObj_type ?_ (hpl.sizeOk5 _ _ _ _ _));have e1:h1.get? e=some oe:=(s1.2.1 e hne).trans he;have e2:=ul (h:=h1) { cls:=.type "traceback",dict:=none,data:=.fields ([head,.ref L,.none,rawInt L,.none]++(if pl.isEmpty then sK 6 Value.none else pl)).toArray } e1;have hTe:h1.objs.size≠e:=Nat.ne_of_gt (ut e1);have d3:=Obj.data_mapFields hd (·.setIfInBounds 1 (Value.ref h1.objs.size));have e3:=Heap.get?_update_self (Obj.mapFields (·.setIfInBounds 1 (Value.ref h1.objs.size))) e2 (Obj.isFreed_of_fields d3);have t3:=(Heap.get?_update_other (h1.push { cls:=.type "traceback",dict:=none,data:=.fields ([head,.ref L,.none,rawInt L,.none]++(if pl.isEmpty then sK 6 Value.none else pl)).toArray })
  (Obj.mapFields (·.setIfInBounds 1 (Value.ref h1.objs.size))) (Ne.symm hTe)).trans (v6 h1 rfl)
 have keep:∀ b o,b≠e->h1.get? b=some o->((h1.push { cls:=.type "traceback",dict:=none,data:=.fields ([head,.ref L,.none,rawInt L,.none]++(if pl.isEmpty then sK 6 Value.none else pl)).toArray }).update e (Obj.mapFields (·.setIfInBounds 1 (Value.ref h1.objs.size)))).get? b=some o:=
  λb o hb hq=>(Heap.get?_update_other _ _ (Ne.symm hb)).trans (ul _ hq)
 refine wpAny_setField e2 hd hsz (q _ h1.objs.size ?_ ?_ ?_ (λb o hb ho=>?_) λb o hb ho=>?_)
 .rw[s1.1];exact re _
 .refine⟨_,_,_,_,e3,d3,by simp[hsz],hTe,t3,rfl,?_⟩
  first|(simp;done)|(rcases hpl with rfl|⟨_,_,_,_,_,_,_,rfl⟩<;>simp)
 .intro oe' vs' x y;rw[he]at x;cases x;rw[hd]at y;cases y;refine⟨vs.setIfInBounds 1 (.ref h1.objs.size),?_,by simp⟩;rw[e3];obtain⟨c0,d0,dt,sl0⟩:=oe;cases hd
  rfl
 .obtain⟨sl,z⟩:=s1.2.2 b o ho;exact⟨sl,keep b _ hb z⟩
 .exact keep b o (λz=>hb (by rw[z];exact mo)) ((s1.2.1 b λz=>hb (dL _ z)).trans ho)
abbrev EC (n₀:Nat)(ps:MD)(H:Hp)(h:Heap)(e:Addr):Prop:=(∃ oe vs,h.get? e=some oe/\oe.data=.fields vs/\vs[1]? =some Value.none)\/∃ T,n₀<=T/\H T=none/\(∀ p ∈ ps,p.1≠T)/\Av h e T .none
def BV {n₀:Nat}{ps:MD}{H:Hp}(hfr:A.frames=some (env::outer))(hl:s.heap.FunFrames base (env::outer))(hf:env.frame=some L)(sf:EC n₀ ps H s.heap e)(h0:n₀<=s.heap.objs.size)(hps:∀ p ∈ ps,p.1<s.heap.objs.size)
  (q:∀ h' T T0,s.heap.objs.size<=T->n₀<=T0->(H T0=none\/s.heap.objs.size<=T0)->(∀ p ∈ ps,p.1≠T0)->(∀ o,s.heap.get? T0=some o->∃ ts,o.data=.fields ts)->Av h' e T (rawInt L)->bI e s.heap h'->h'.FunFrames base (env::outer)->(∀ b o,b≠e->b≠T0->s.heap.get? b=some o->∃ sl,h'.get? b=some { o with slots:=sl })->FA (e::T0::oA (env::outer)) s.heap h'->(∀ b o,s.heap.get? b=some o->∃ o',h'.get? b=some o')->Q () { s with heap:=h' }):
  wpAny M A (noteFrame (.ref e) env) Q E s:=by
 have fun_of:∀ {h':Heap}{as:List Addr},(∀ b ∈ as,∀ o,s.heap.get? b=some o->∃ vs,o.data=.fields vs)->(∀ b o,b ∉ as->s.heap.get? b=some o->∃ sl,h'.get? b=some { o with slots:=sl })->h'.FunFrames base (env::outer):=
  λ{h' as} ha k=>hl.of_keeps λb o ho hnf=>by
   by_cases hb:b ∈ as
   .obtain⟨vs,z⟩:=ha b hb o ho;exact absurd z (hnf vs)
   .obtain⟨sl,z⟩:=k b o hb ho;exact⟨_,z,rfl⟩
 unfold noteFrame;simp only[hf];rcases sf with⟨oe,vs,he,hd,h1⟩|⟨T0,hT0,hH0,hp0,oe,vs,oT,ts,he,hd,h1,hTe,hT,hdT,h3⟩
 .skip
  refine ad (ap he hd h1 ?_);rw[if_neg (by decide)];refine nz hfr hl hf he hd (Array.getElem?_eq_some_iff.mp h1).1 λh' T hT st fo sl sy=>?_
  refine q h' T s.heap.objs.size hT h0 (.inr (re _)) (λp hp=>pi (hps p hp)) (λo z=>absurd (ut z) (Nat.lt_irrefl _)) st fo ?_ (λb o hb _ ho=>sl b o hb ho) (λb o hb ho=>sy b o (λz=>hb ?_) ho) λb o ho=>?_
  .refine fun_of (as:=[e]) (λb hb o ho=>?_) λb o hb ho=>sl b o (by simpa using hb) ho
   obtain rfl:b=e:=by simpa using hb
   rw[he]at ho;cases ho;exact⟨vs,hd⟩
  .rcases nb.mp z with z|z
   .exact nb.mpr (.inl z)
   .exact dL _ (dL _ z)
  .by_cases hb:b=e
   .subst hb;rw[he]at ho;cases ho;obtain⟨vs',z,_⟩:=fo _ _ he hd;exact⟨_,z⟩
   .obtain⟨sl',z⟩:=sl b o hb ho;exact⟨_,z⟩
 .refine ad (ap he hd h1 ?_);rw[if_pos (show(Value.ref T0 != Value.none)=true from by simp)];refine ad (ap hT hdT h3 ?_);rw[if_neg (show ¬ ((Value.none ==rawInt L)=true) from by simp[rawInt])];refine ad (wpAny_setField hT hdT (Array.getElem?_eq_some_iff.mp h3).1 ?_);have other:∀ b,b≠T0->(s.heap.update T0 (Obj.mapFields (·.setIfInBounds 3 Value.none))).get? b=s.heap.get? b:=λb hb=>Heap.get?_update_other _ _ (Ne.symm hb)
  have self':=Heap.get?_update_self (Obj.mapFields (·.setIfInBounds 3 Value.none)) hT (Obj.isFreed_of_fields (Obj.data_mapFields hdT _));have rec':∀ b o,s.heap.get? b=some o->(∀ vs,o.data≠.fields vs)->b≠T0:=λb o hb hnf z=>by
   rw[z,hT]at hb;cases hb;exact hnf ts hdT
  refine nz (base:=base) hfr (hl.of_keeps λb o hb hnf=>⟨o,(other b (rec' b o hb hnf)).trans hb,rfl⟩) hf ((other e (Ne.symm hTe)).trans he) hd (Array.getElem?_eq_some_iff.mp h1).1 λh' T hTn st fo sl sy=>?_
  have hTn':s.heap.objs.size<=T:=by
   have z:(s.heap.update T0 (Obj.mapFields (·.setIfInBounds 3 Value.none))).objs.size<=T:=hTn
   rwa [Heap.size_after_update]at z
  refine q h' T T0 hTn' hT0 (.inl hH0) hp0 (λo z=>by rw[hT]at z;cases z;exact⟨ts,hdT⟩) st (bI.trans (bI.same (other e (Ne.symm hTe))) fo) ?_ (λb o hb hb0 ho=>sl b o hb ((other b hb0).trans ho)) (λb o hb ho=>?_) λb o ho=>?_
  .refine fun_of (as:=[e,T0]) (λb hb o ho=>?_) λb o hb ho=>sl b o (λz=>hb (by simp[z])) ((other b λz=>hb (by simp[z])).trans ho)
   rcases nb.mp hb with hb|hb
   .subst hb;rw[he]at ho;cases ho;exact⟨vs,hd⟩
   .obtain rfl:b=T0:=by simpa using hb
    rw[hT]at ho;cases ho;exact⟨ts,hdT⟩
  .have n1:b≠e:=λz=>hb (by simp[z])
   have n2:b≠T0:=λz=>hb (by simp[z])
   refine sy b o (λz=>hb ?_) ((other b n2).trans ho);rcases nb.mp z with z|z
   .exact nb.mpr (.inl z)
   .exact dL _ (dL _ z)
  .by_cases hb:b=e
   .subst hb;obtain⟨vs',z,_⟩:=fo _ _ ((other b (Ne.symm hTe)).trans he) hd;exact⟨_,z⟩
   .by_cases hb0:b=T0
    .subst hb0;obtain⟨sl',z⟩:=sl b _ hb self';exact⟨_,z⟩
    .obtain⟨sl',z⟩:=sl b o hb ((other b hb0).trans ho);exact⟨_,z⟩
def uM {T:Addr}{fl:Value}(st:Av s.heap e T fl)
  (q:∀ h',Av h' e T .none->(∀ b,b≠T->h'.get? b=s.heap.get? b)->(∃ o,s.heap.get? T=some o)->(∃ o,h'.get? T=some o)->(∃ oT ts,h'.get? T=some oT/\oT.data=.fields ts)->Q () { s with heap:=h' }):wpAny M A (setFlight (.ref e) none) Q E s:=by
 obtain⟨oe,vs,oT,ts,he,hd,h1,hTe,hT,hdT,h3⟩:=st;have hz:3<ts.size:=(Array.getElem?_eq_some_iff.mp h3).1;have other:∀ b,b≠T->(s.heap.update T (Obj.mapFields (·.setIfInBounds 3 ((none:Option Addr).elim Value.none λf=>rawInt f)))).get? b=s.heap.get? b:=λb hb=>Heap.get?_update_other _ _ (Ne.symm hb)
 have self':=Heap.get?_update_self (Obj.mapFields (·.setIfInBounds 3 ((none:Option Addr).elim Value.none λf=>rawInt f))) hT (Obj.isFreed_of_fields (Obj.data_mapFields hdT _));unfold setFlight;refine ad (ap he hd h1 ?_);rw[if_pos (show(Value.ref T != Value.none)=true from by simp)];refine wpAny_setField hT hdT hz (q _ ⟨oe,vs,_,_,(other e (Ne.symm hTe)).trans he,hd,h1,hTe,self',Obj.data_mapFields hdT _,by simp[hz]⟩ other ⟨_,hT⟩ ⟨_,self'⟩ ⟨_,_,self',Obj.data_mapFields hdT _⟩)
end
variable {A:Around}
section
variable {X:Cx}{U:St}{H:Hp}{s:Shared}{e C:Addr}{dx:Option Addr}{fs:List (Str×V)}{h':Heap}
def Inv.yS {Y:MD}(I:Inv X Y U H s):Inv X [] U H s:=I.nJ λ_ z=>absurd z (by simp)
def Inv.HR {T0:Addr}{as:List Addr}(I:Inv X [] U H s)(hpn:∀ p ∈ X.pn,p.1≠T0) (he:H e=some (.exc C dx fs false)) (has:as=oA X.stack)
  (hT:X.s₀.heap.objs.size<=T0) (hT0:H T0=none\/s.heap.objs.size<=T0) (hTd:∀ o,s.heap.get? T0=some o->∃ ts,o.data=.fields ts)
  (fo:bI e s.heap h') (sl:∀ b o,b≠e->b≠T0->s.heap.get? b=some o->∃ sl,h'.get? b=some { o with slots:=sl }) (sy:FA (e::T0::as) s.heap h') (th:∀ b o,s.heap.get? b=some o->∃ o',h'.get? b=some o'):
  Inv X [] U H { s with heap:=h' }:=by
 subst has;obtain⟨⟨vs,ho,hsz,_⟩,z⟩:=id (I.hok e _ he);have hH0:H T0=none:=by
  rcases hT0 with z|z
  .exact z
  .exact I.hok.fresh z
 have nT:∀ {b:Addr}{o:Obj},s.heap.get? b=some o->(∀ vs,o.data≠.fields vs)->b≠T0:=λ{b o} hb hn z=>by
  subst z;obtain⟨ts,q⟩:=hTd _ hb;exact hn ts q
 have jR:∀ b o,H b=none->b≠T0->b ∉ oA X.stack->s.heap.get? b=some o->h'.get? b=some o:=λb o hb h0 hf hq=>sy b o (λm=>by
  rcases nb.mp m with m|m
  .rw[m,he]at hb;cases hb
  .rcases nb.mp m with m|m
   .exact h0 m
   .exact hf m) hq
 have Ea:∀ a u,H a=some u->a≠e->∀ o,s.heap.get? a=some o->h'.get? a=some o:=λa u ha ne o hq=>sy a o (λm=>by
  rcases nb.mp m with m|m
  .exact ne m
  .rcases nb.mp m with m|m
   .rw[m,hH0]at ha;cases ha
   .rw[I.oo a m]at ha;cases ha) hq
 refine I.step (g':=s.gens) (t':=s.toks) (d':=s.drawn) (ch:=[T0]) (h':=h') (λb hb=>?_) (λb o hL hfs hch hq hn=>?_) (λb o hL hfs hch hq hn=>?_) (λb o _ _ hn=>hn) (λb o _ hq=>th b o hq) (λ_ _ q=>q) (λ_ _ _ q=>q) (λb ps q=>⟨#[],by rw[q];simp⟩) (λm hm=>?_) (λa u ha=>?_) I.bare
 .obtain rfl:b=T0:=by simpa using hb
  refine⟨.inr hT,?_,λx c hc z=>?_,λp hp=>hpn p (by simpa using hp)⟩
  .obtain⟨m,⟨o,es,ep,ho',hd,_⟩,_⟩:=I.loc;intro z;exact nT ho' (λvs q=>by rw[hd]at q;cases q) z.symm
  .obtain⟨v,o,ho',hd⟩:=I.cell x c hc;exact nT ho' (λvs q=>by rw[hd]at q;cases q) z
 .refine jR b o hn (by simpa using hch) (λm=>?_) hq;rcases nb.mp (I.iU b m) with z|z
  .exact hL z
  .exact hfs z
 .exact sl b o (λz=>by rw[z,he]at hn;cases hn) (by simpa using hch) hq
 .obtain⟨o,es,ep,ho',hd,r⟩:=hm;have n1:X.env.locals≠e:=λz=>by have:=I.free;rw[z,he]at this;cases this
  obtain⟨sl',q⟩:=sl _ o n1 (nT ho' λvs q=>by rw[hd]at q;cases q) ho';exact⟨_,es,ep,q,hd,r⟩
 .by_cases hae:a=e
  .subst hae;rw[he]at ha;cases ha;obtain⟨vs',q,hz⟩:=fo _ vs ho rfl;refine⟨⟨vs',q,hz.trans hsz,λy=>by cases y⟩,?_⟩;rcases z with z|⟨d,ed,d1,z1,ne,mA,⟨od,es,ep,e2,c⟩,r⟩
   .exact .inl z
   .exact .inr ⟨d,ed,d1,z1,ne,mA,⟨od,es,ep,Ea d _ d1 ne _ e2,c⟩,r⟩
  .refine(I.hok a u ha).jR (λb o hb hq=>?_) (λ_ q=>q) λ_ _ q=>q
   rcases hb with hb|hb
   .subst hb;exact Ea b u ha hae o hq
   .refine Ea b _ hb (λz=>?_) o hq;rw[z,he]at hb;cases hb
abbrev xE (P:Program)(w:World):tW:=λouter H s E u s'=>∃ (e:Addr) (H':Hp) (C:Addr) (dx:Option Addr) (fs:List (Str×V)) (T:Addr),u=.ref e/\s'.os=s.os/\AllBare s'.gens/\Un (oA outer) [] H H' s.heap s'.heap/\gb P w H' s'.heap/\
 H' e=some (.exc C dx fs false)/\s.heap.objs.size<=T/\H' T=none/\Av s'.heap e T .none/\E e H'
abbrev GV (X:Cx)(E:St->XK):Prop:=∀ (U:St) (H:Hp) (s:Shared) (e C:Addr) (dx:Option Addr) (fs:List (Str×V)),Inv X [] U H s->EC X.s₀.heap.objs.size X.pn H s.heap e->H e=some (.exc C dx fs false)->E U e H->X.xe (.ref e) s
def mP {E:St->XK}(x:GV X E):Passes (xE X.prog X.w) X E:=by
 intro Y U H s u s' I h;obtain⟨e,H',C,dx,fs,T,rfl,os,bare,un,hok,he,hT,hT0,st,q⟩:=h;have J:Inv X [] U H' s':=Inv.zP (ch:=[]) I.yS os un hok bare (λb z=>absurd z (by simp));exact x U H' s' e C dx fs J (.inr ⟨T,Nat.le_trans I.sz hT,hT0,λp hp=>pi (ol (ut (I.pin p (mem_append_left _ hp)).1) hT),st⟩) he q
def mL {M:Model}{E E':MC}{Q:Shared->Prop}(I:Inv X [] U H s)(hs:X.stack=X.env::X.outer)(hf:X.env.frame=some X.env.locals)(sf:EC X.s₀.heap.objs.size X.pn H s.heap e)(he:H e=some (.exc C dx fs false))
  (q:∀ s' T,Inv X [] U H s'->s'.os=s.os->X.s₀.heap.objs.size<=T->H T=none->(∀ p ∈ X.pn,p.1≠T)->Av s'.heap e T .none->Q s'):
  wpAny M X.A (noteFrame (.ref e) X.env) (λ_ s1=>wpAny M X.A (setFlight (.ref e) none) (λ_ s2=>Q s2) E s1) E' s:=by
 have hl:s.heap.FunFrames X.base (X.env::X.outer):=hs▸I.stack;refine BV (by rw[<-hs];exact I.ok.frames) hl hf sf I.sz (λp hp=>ut (I.pin p (mem_append_left _ hp)).1) λh1 T T0 hT hT0 hH0 hp0 hTd st fo fF sl sy th=>?_
 have I1:=I.HR (T0:=T0) (as:=oA (X.env::X.outer)) (h':=h1) hp0 he (by rw[hs]) hT0 hH0 hTd fo sl sy th;have hHT:H T=none:=I.hok.fresh hT;have hpT:∀ p ∈ X.pn,p.1≠T:=λp hp=>pi (ol (ut (I.pin p (mem_append_left _ hp)).1) hT)
 refine uM (s:={ s with heap:=h1 }) st λh2 pK oth _ th2 rec2=>?_
 have I2:Inv X [] U H { s with heap:=h2 }:=by
  refine Inv.turned (s:={ s with heap:=h1 }) (it:=T) (h':=h2) (t':=s.toks) I1 (λb o hb hq=>(oth b hb).trans hq) hHT ?_ (.inr (Nat.le_trans I.sz hT)) (λx c hc z=>?_) λp hp=>hpT p (by simpa using hp)
  .exact λz=>absurd (ol I.lt hT) (by rw[z];exact Nat.lt_irrefl _)
  .obtain⟨v,o,ho,_⟩:=I.cell x c hc;exact absurd (ol (ut ho) hT) (by rw[z];exact Nat.lt_irrefl _)
 exact q _ T I2 rfl (Nat.le_trans I.sz hT) hHT hpT pK
def wt {P:Program}{w:World}{K:W.Frag}{mg:ME}{base:Heap}{N:List Str}{qual:Str}{scope:Scope}{f:Addr}{cd:Value}{outer:List Env}{E:XK}:
  GV (vw (xE P w) P w K mg base N qual scope f cd A outer s H E) (λ_=>E):=by
 intro σ' H' s' e C dx fs I sf he q;show wpAny _ _ (do noteFrame (.ref e) _;setFlight (.ref e) none) _ _ s';refine ad (mL I rfl rfl sf he λs2 T J os hT hH _ st=>?_);exact⟨e,H',C,dx,fs,T,rfl,J.os,J.bare,J.base,J.hok,he,hT,hH,st,q⟩
end
structure JS (K:W.Frag) (C f:Addr):Prop where
 mks:cj K C=true
 init:W.findIn K (.ref C) "__init__"=some (some (.ref f))
 fn:W.isFn K (.ref f)=true
 kp:W.keepIn K (.ref C)=true
variable {us:List Value}{vs:List V}
section
variable {X:Cx}{Y:MD}{U:St}{H:Hp}{s:Shared}{C f:Addr}
def Inv.Dv (us:List Value)(I:Inv X Y U H s):Inv X Y U (upd H (s.heap.objs.size+1) (.exc C none [] true))
  { s with heap:=(s.heap.push { cls:=.type "tuple",data:=.seq us.toArray }).push { cls:=.ref C,data:=.fields #[.ref s.heap.objs.size,.none,.none,.none,.bool false,.none] } }:=by
 have I1:=I.kept (h':=s.heap.push { cls:=.type "tuple",data:=.seq us.toArray }) (t':=s.toks) λb u q=>ul _ q
 refine Inv.laid (s:={ s with heap:=s.heap.push { cls:=.type "tuple",data:=.seq us.toArray } }) (a:=s.heap.objs.size+1) (o:=.exc C none [] true) (t':=s.toks) I1 (λb u q=>ul _ q) (Nat.le_of_eq (Heap.size_push _ _)) ?_;refine⟨⟨#[.ref s.heap.objs.size,.none,.none,.none,.bool false,.none],?_,rfl,λ_=>rfl⟩,.inl ⟨rfl,rfl⟩⟩;have:=v6 (s.heap.push { cls:=.type "tuple",data:=.seq us.toArray }) (o:={ cls:=.ref C,data:=.fields #[.ref s.heap.objs.size,.none,.none,.none,.bool false,.none] }) rfl
 rwa [Heap.size_push]at this
variable {CX:tW}{k:Nat}{fd:FuncData}{ps:List Str}{sp:Sp}{dvs:List V}{ds:List Value}{E:St->XK}{x m:Str}{p pos apos:Pos}{e o:Expr}{es:List Expr}{ta:TE}{t:TA}
abbrev zt (C:Addr)(sp:Sp)(dvs:List V)(E:St->XK)(t:TA):TE:=λU H Q=>t U H λvs H1=>vs.length<=1000/\∀ x,H1 x=none->sp (.ref x::(vs++dvs)) (upd H1 x (.exc C none [] true)) (λv H2=>v=.non/\Q (.ref x) H2) (E U)
def ng {Q:VK}(M:JS X.K C f)(F:dy X.prog X.w X.K X.mg X.base CX k f fd ps sp)(hr:bZ (k+1) X.A)(hb:Binds X.K fd ps ds)(hd:Vals dvs ds)
  (hx:Passes CX X E) (hz:us.length<=bn) (I:Inv X Y U H s) (r:Vals vs us)
  (h:∀ x,H x=none->sp (.ref x::(vs++dvs)) (upd H x (.exc C none [] true)) (λv H2=>v=.non/\Q (.ref x) H2) (E U)):
  wpAny (model X.prog X.w) X.A (call (.ref C) us) (EP X Y U Q) X.xe s:=by
 have hq:=h (s.heap.objs.size+1) (I.hok.fresh (Nat.le_succ _));have I2:=Inv.Dv (C:=C) us I;have r2:Vals (V.ref (s.heap.objs.size+1)::(vs++dvs)) (Value.ref (s.heap.objs.size+1)::(us++ds)):=.cons rfl (r.append hd);have hl:(Value.ref (s.heap.objs.size+1)::us++ds).length=ps.length:=by
  have e:=r2.length;rw[F.len _ _ _ _ hq]at e;exact e.symm
 obtain⟨hh,g,d,tk,os⟩:=s;refine wpAny_call (Gp (fI:=f) I.b9 hz M.mks M.init (beq_iff_eq.mp M.fn) (codeAny_mono (F.run _ X.stack _ _ ⟨Value.ref (hh.objs.size+1)::us,[]⟩ (Value.ref (hh.objs.size+1)::(us++ds)) _ _ (E U) (hr.make C us [])
  (I2.i8.make C us []) (hb _ (Value.ref (hh.objs.size+1)::us) I2.b9 hl) r2 hq) λr s' hq'=>?_))
 cases r with
 |error e=>exact hx Y U _ _ e s' I2 hq'
 |ok fl=>
  cases fl with
  |ret u=>
   obtain⟨v,H',J,rv,ev,q⟩:=I2.after hq';subst ev;obtain rfl:u=Value.none:=rv;exact⟨rfl,.ref _,H',J,rfl,q⟩
  |next=>exact False.elim hq'
  |brk=>exact False.elim hq'
  |cont=>exact False.elim hq'
def yp (M:JS X.K C f)(F:dy X.prog X.w X.K X.mg X.base CX k f fd ps sp)(hr:bZ (k+1) X.A)(hg:Gl X x)(hm:X.mg x=some (.ref C))(hb:Binds X.K fd ps ds)(hd:Vals dvs ds)(hx:Passes CX X E)
  (ha:PA X (e::es) t) (hdb:(x ==("__debug__":Str))=false:=by decide) (he:bm (e::es) X.env=(false,eval e X.env)::bm es X.env:=by rfl) (hpl:(backTo pos (bm es X.env)).any (·.1)=false:=by rfl):
  PE X (.Call (.Name x p) (e::es) [] pos) (zt C sp dvs E t):=by
 intro Y s U H Q I h;refine bv (bL I hg hm ?_ hdb);refine W.callWith_K (h₀:=X.base) I.ok.mod.kin M.kp (aB (ha pos Y s U H _ I h) λus s1 ⟨vs,H1,I1,r,z,q⟩=>⟨I1.b9,?_⟩) he hpl;exact ng M F hr hb hd hx (by rw[nil_append,<-r.length];exact Nat.le_of_lt (dc z)) I1 r q
structure Fs (K:W.Frag) (C:Addr):Prop where
 mks:cj K C=true
 init:W.findIn K (.ref C) "__init__"=some (some (.builtin "ValueError.__init__"))
 kp:W.keepIn K (.ref C)=true
 cls:cU K C
abbrev BJ (C:Addr)(t:TA):TE:=λU H Q=>t U H λvs H1=>vs.length=1/\∀ x,H1 x=none->Q (.ref x) (upd H1 x (.exc C none [] true))
def tK {Q:VK}(M:Fs X.K C)(I:Inv X Y U H s)(r:Vals vs us)(h1:vs.length=1)(h:∀ x,H x=none->Q (.ref x) (upd H x (.exc C none [] true))):
  wpAny (model X.prog X.w) X.A (call (.ref C) us) (EP X Y U Q) X.xe s:=by
 have hq:=h (s.heap.objs.size+1) (I.hok.fresh (Nat.le_succ _));have I2:=Inv.Dv (C:=C) us I;obtain⟨u,rfl⟩:∃ u,us=[u]:=by
  have e:=r.length;rw[h1]at e
  match us,e with
  | [u],_=>exact⟨u,rfl⟩
 obtain⟨hh,g,d,tk,os⟩:=s;refine wpAny_call (A5 I.b9 (by rw[sizeLine_eq];exact pc rfl) M.mks M.init (ku (C:=C) (dx:=none) (fs:=[]) (fr:=true) I2 az M.cls λs' J=>?_));exact⟨rfl,.ref _,_,J,rfl,hq⟩
def xB (M:Fs X.K C)(hg:Gl X x)(hm:X.mg x=some (.ref C))(ha:PA X (e::es) t)(hdb:(x ==("__debug__":Str))=false:=by decide) (he:bm (e::es) X.env=(false,eval e X.env)::bm es X.env:=by rfl) (hpl:(backTo pos (bm es X.env)).any (·.1)=false:=by rfl):
  PE X (.Call (.Name x p) (e::es) [] pos) (BJ C t):=by
 intro Y s U H Q I h;refine bv (bL I hg hm ?_ hdb);refine W.callWith_K (h₀:=X.base) I.ok.mod.kin M.kp (aB (ha pos Y s U H _ I h) λus s1 ⟨vs,H1,I1,r,z,q⟩=>⟨I1.b9,?_⟩) he hpl;exact tK M I1 r z q
structure Lz (K:W.Frag) (B:Addr):Prop where
 ga:W.specialIn K (.ref B) "__getattribute__"=some (some (.builtin "type.__getattribute__"))
 rd:W.readsIn K B (.type "type")=true
 fi:W.findCls K (.ref B) (.type "type") "__init__"=some (.val (.builtin "ValueError.__init__"))
abbrev KJ (K:W.Frag)(t:TA):TE:=λU H Q=>t U H λvs H1=>∃ a C dx fs fr v,vs=[.ref a,v]/\H1 a=some (.exc C dx fs fr)/\cU K C/\Q .non H1
def Fj {B:Addr}{pl:Sem Bool}{np:Pos}(b:Lz X.K B)(hg:Gl X x)(hm:X.mg x=some (.ref B))(ha:PA X (e::es) t)(hdb:(x ==("__debug__":Str))=false:=by decide)
  (hst:bm (e::es) X.env=(false,eval e X.env)::bm es X.env:=by rfl) (hpl:(backTo pos (bm es X.env)).any (·.1)=false:=by rfl)
  (ht:eval (.Call (.Attribute (.Name x np) "__init__" apos) (e::es) [] pos) X.env=(do
   let ov <-eval (.Name x np) X.env
   standAt apos.atName
   let(f,first) <-holding [ov] (getMethod ov "__init__" pl)
   callWith pos f first (backTo pos (bm (e::es) X.env)) (backToKw pos (keywordEach [] X.env))):=by rfl):
  PE X (.Call (.Attribute (.Name x np) "__init__" apos) (e::es) [] pos) (KJ X.K t):=by
 intro Y s U H Q I h;refine W.methodCall_KW (pl:=pl) (bL I hg hm ?_ hdb) ht;refine W.method_cls I.b9 b.ga (W.cls_value I.b9 b.rd b.fi (by decide+kernel) ?_);refine PyProof.Rows.callWith_builtin1 (aB (ha pos Y _ U H _ (I.tok _) h) λus s1 ⟨vs,H1,I1,r,a,C,dx,fs,fr,v,ev,ea,c,q⟩=>?_) hst hpl;subst ev;cases r with
 |cons r1 r2=>
  cases r2 with
  |cons r3 r4=>
   cases r4;cases r1;exact rS I1 ea c λs' J=>⟨.non,H1,J,rfl,q⟩
structure Ma (K:W.Frag) (C f:Addr):Prop where
 ga:W.specialIn K (.ref C) "__getattribute__"=some (some (.builtin "type.__getattribute__"))
 rd:W.readsIn K C (.type "type")=true
 fi:W.findCls K (.ref C) (.type "type") "__init__"=some (.val (.ref f))
 kp:W.keepIn K (.ref f)=true
end
section
open PySem.Builtin PySem.Builtin.ObjectAttr
variable {prog:Program}{w:World}{A:Around}{E:MC}{s:Shared}{K:W.Frag}{x C:Addr}{ox:Obj}{odo:Option Obj}
structure yl (K:W.Frag) (C:Addr):Prop where
 ha:W.findIn K (.ref C) "__class__"=some (some (.builtin "object.__class__"))
 hn:W.specialIn K (.builtin "object.__class__") "__get__"=some (some (.builtin "getset_descriptor.__get__"))
 htk:W.takesIn K (.builtin "object.__class__")=some true
def AK {Q:Option Value->Shared->Prop}(X:K.In s.heap)(I:W.InstAt s.heap x ox C odo)(c:cU K C)(z:yl K C)(hfo:W.findObj K C odo "__class__"=some (.bind (.builtin "getset_descriptor.__get__") (.builtin "object.__class__")))
  (h:Q (some (.ref C)) { s with toks:=s.toks+1 }):wpAny (model prog w) A (getAttr? (.ref x) "__class__") Q E s:=by
 obtain⟨hp,g,d,t,os⟩:=s;have L0:=I.type (M:=model prog w);have L1:=looks_findIn (M:=model prog w) X c.ga;have L2':=looks_findIn (M:=model prog w) X c.gn;have L3:=looks_find (M:=model prog w) X I hfo;have L4:Looks (model prog w) hp (isInstance (.ref x) (.type "BaseException")) true:=I.type.andThen (looks_mroIn X (c.sub (by decide+kernel)));unfold getAttr? getAttrBy? getAttrBy;refine ad (wpAny_mkText (ad (wpAny_attempt (bd (ad (L0.at (ad (L1.at ?_))))))));have e1:(Value.builtin "BaseException.__getattribute__" ==Value.builtin "object.__getattribute__")=false:=by decide+kernel
 dsimp only;rw[e1,Bool.and_false];show wpAny _ _ (getAttrByItsOwn _ _ _ _ _ _) _ _ _;unfold getAttrByItsOwn hookBefore;refine ad (L2'.at ?_);refine ad (wpAny_attempt (bd ?_));unfold callGetattribute;show wpAny _ _ (boundAndCalled _ _ _) _ _ _;unfold boundAndCalled;rw[PySem.F.attr_ValueError.ga.bind];refine ad (am (wpAny_call (codeAny_call_builtin PySem.F.attr_ValueError.ga.plain PySem.F.entry_bexc_ga ?_)));refine @check_slot (model prog w) _ _ _ "BaseException.__getattribute__" "BaseException" "__getattribute__" (.ref x) [.str "__class__" t] [] _ qb nc L4 (PySem.F.args_bexc_ga (.ref x) (.str "__class__" t)) ?_;unfold Builtin.«object.__getattribute__»;refine ad (am (ad (am (ad (L0.at (ad (L3.at ?_)))))));show wpAny _ _ (holding [_] (call _ [_,.ref x,.ref C]) >>= ret) _ _ _;refine ad (bd (wpAny_call (class_get (s:=⟨hp,g,d,t+1,os⟩) (ox:=ox) (od:=odo) X I (c.sub (by decide+kernel)) ?_)));refine am ?_;show wpAny _ _ (handedOut (.ref C)) _ _ _;exact handed_on rfl (am h)
def xC (c:cU K C)(z:yl K C):W.findObj K C odo "__class__"=some (.bind (.builtin "getset_descriptor.__get__") (.builtin "object.__class__")):=by
 obtain⟨cd,hc,_⟩:=W.any_some c.hd;unfold W.findObj;rw[hc,Option.bind_some,z.ha,Option.bind_some];simp[z.hn,z.htk]
def yD (c:cU K C)(z:yl K C):W.KitX K (.ref x) (.ref C) (λh=>W.InstAt h x ox C odo) where
 ty:=λ_ _ _ I=>I.type
 it:=λ_ _ X _=>by
  obtain⟨cdD,hcD,_⟩:=W.any_some c.hd;unfold W.clsIn at hcD
  split at hcD
  .rename_i c' d' cd' sl' ho;intro A' Q' E' s' k q;unfold isType loadHead;exact ad (wpAny_loadPart (k _ _ (X _ _ ho)) (am q))
  .cases hcD
 ne:=λh tp dd its n sl X htp=>by
  obtain⟨cdD,hcD,_⟩:=W.any_some c.hd;refine Bool.eq_false_iff.mpr λq=>?_
  have e:C=tp:=Value.ref.inj (beq_iff_eq.mp q);subst e;unfold W.clsIn at hcD
  split at hcD
  .rename_i c' d' cd' sl' ho;have z:=(X _ _ ho).symm.trans htp;cases z
  .cases hcD
 ca:=λX I k=>AK X I c z (xC c z) k
end
section
variable {X:Cx}{Y:MD}{U:St}{H:Hp}{s:Shared}{a C:Addr}{dx:Option Addr}{fs:List (Str×V)}{fr:Bool}
def Ah (I:Inv X Y U H s)(e:H a=some (.exc C dx fs fr)):∃ ox odo,W.InstAt s.heap a ox C odo:=by
 obtain⟨⟨vs,ho,_⟩,z⟩:=id (I.hok a _ e);rcases z with⟨rfl,_⟩|⟨d,rfl,_,_,_,mA,⟨od,es,ep,hod,_⟩,_⟩
 .exact⟨_,none,ho,rfl,rfl,True.intro⟩
 .exact⟨_,some od,ho,rfl,rfl,hod⟩
def xP {E:MC}{Q:MC}{cv:Value}{b:Bool}(I:Inv X Y U H s)(e:H a=some (.exc C dx fs fr))(c:cU X.K C)(z:yl X.K C)(k:W.kitOne X.K (.ref C) cv=some b)
  (h:∀ tk,Q (.bool b) { s with toks:=tk }):wpAny (model X.prog X.w) A (call (.builtin "isinstance") [.ref a,cv]) Q E s:=by
 obtain⟨ox,odo,J⟩:=Ah I e;exact W.kia_one (yD (ox:=ox) (odo:=odo) c z) I.b9 J k (λz=>nomatch z) h
end
end L2
namespace L2
open PySem PySem.Spec PySem.W PyProof.Rows
variable {dx:Option Addr}
section
variable {X:Cx}{f:Str}{o value ex:Expr}{ta tv te:TE}{pos pos':Pos}{E:St->XK}
def rN {h:Heap}{a:Addr}{C:Addr}{vs:Array Value}{M:Model}(ho:h.get? a=some { cls:=.ref C,dict:=dx,data:=.fields vs }):W.Looks M h (isType (.ref a)) false:=by
 intro A Q E s k q;unfold isType loadHead;exact ad (wpAny_loadPart (k _ _ ho) (am q))
abbrev EL (K:W.Frag)(E:St->XK)(te:TE):TS:=λD U H=>te U H λv H1=>∃ a C dx fs,v=.ref a/\H1 a=some (.exc C dx fs true)/\cU K C/\E U a (upd H1 a (.exc C dx fs false))
def yb (hx:GV X E)(hc:X.calm=true)(he:PE X ex te):PS X (.Raise (some ex) none pos) (EL X.K E te):=by
 intro Y s U H D I h;rw[arm_exec_Raise];simp only[evalOpt,Option.map];refine ad (wpAny_standAt ?_);unfold raiseStmt;refine ad (ad (aB (he Y s U H _ I h) λu s1 ⟨y,H1,I1,ry,a,C,dx,fs,ey,ea,c,q⟩=>ad (wpAny_standAt (am ?_))));subst ey;obtain rfl:u=Value.ref a:=ry;obtain⟨⟨vs,ho,hsz,h1⟩,z⟩:=id (I1.hok a _ ea);have h1':=h1 rfl;have hq:X.xe (.ref a) s1:=by
  have J:Inv X [] U (upd H1 a (.exc C dx fs false)) s1:=by
   have J1:=I1.yS.write (x:=a) (e:=a) (o:=.exc C dx fs false) (t':=s1.toks) (h':=s1.heap) (by rw[ea];exact True.intro) (.inl rfl) (λ_ _ _ q=>q) ⟨_,ho⟩ ?_
   .exact J1
   .refine⟨⟨vs,ho,hsz,λy=>by cases y⟩,?_⟩;rcases z with z|⟨d,ed,d1,z1,ne,r⟩
    .exact .inl z
    .exact .inr ⟨d,ed,by rw[ai ne];exact d1,z1,ne,r⟩
  exact hx U _ s1 a C dx fs J (.inl ⟨_,vs,ho,rfl,h1'⟩) az q
 obtain⟨hp,g,d,tk,os⟩:=s1;have L0:Looks (model X.prog X.w) hp (typeOf (.ref a)) (.ref C):=(Looks.ld ho).andThen .now;have L1:Looks (model X.prog X.w) hp (isType (.ref a)) false:=rN ho;have L2':Looks (model X.prog X.w) hp (isInstance (.ref a) (.type "BaseException")) true:=L0.andThen (looks_mroIn I1.b9 (c.sub (by decide+kernel)));have L5:Looks (model X.prog X.w) hp (typeOf (.ref C)) (.type "type"):=looks_typeIn I1.b9 c.mt;have tt:(Value.type "type" ==Value.type "type")=true:=by decide
 repeat(first|simp only[Bool.false_eq_true,if_false,if_true,tt]|lk)
 rw[h1'];refine am ?_;rw[if_neg (by decide)];exact am (wpAny_raiseNew_none (I1.ok.hd hc) hq)
end
@[reducible]def Cx.bM (X:Cx) (e:Value):Cx:={ X with A:=X.A.mark (some e),calm:=false,xe:=λ_ _=>False }
variable {xe:MC}{ps:MD}{D:Ends}
section
variable {X:Cx}{Y:MD}{U:St}{H:Hp}{s:Shared}
def Cx.Ok.bM (ok:X.Ok)(e:Value):(X.bM e).Ok:=
 ⟨ok.mod,ok.kind,ok.glob,ok.blt,ok.above,ok.inj,ok.has,ok.cab,(λz=>by cases z),ok.frames,ok.stk,ok.exf,ok.bs,ok.bsz,ok.noex,ok.exfs,ok.jM,ok.frf⟩
def Inv.bM (I:Inv X Y U H s)(e:Value):Inv (X.bM e) Y U H s:=⟨I.ok.bM e,I.os,I.bare,I.base,I.loc,I.cell,I.free,I.freeC,I.pin,I.hok,I.len⟩
def Inv.j6 {e:Value}(ok:X.Ok)(I:Inv (X.bM e) Y U H s):Inv X Y U H s:=⟨ok,I.os,I.bare,I.base,I.loc,I.cell,I.free,I.freeC,I.pin,I.hok,I.len⟩
def fE {M:Model}{A:Around}{E:MC}{Q:MB}{i:Nat}{n:Str}{pos:Pos}(I:Inv X Y U H s)(hN:X.N.Nodup)(hi:X.N[i]? =some n)(hn:X.env.scope.names.lookup n=some .local)
  (h:∀ s',Inv X Y (U.set i none) H s'->Q () s'):wpAny M A (do bindName X.env n .none;unbindBehindTheSuite X.env n pos) Q E s:=by
 have hcls:(X.env.scope.kind ==.class||(X.env.scope.kind ==.module&&X.env.locals != X.env.globals))=false:=by rw[I.ok.kind];rfl
 refine ad (wpAny_bindName (bH I hN hi (.inl hn) (v:=.non) rfl (λs1 I1=>?_) (.inr hn)));obtain⟨m,hm,hl⟩:=I1.loc;unfold unbindBehindTheSuite;refine wpAny_onRaise ?_;unfold unbindName;refine ad (wpAny_point (ad ?_));unfold deleteName;have hk:X.env.kindOf n=some .local:=hn;have hiσ:i<U.length:=by rw[I.len];exact(tz.mp hi).1
 have hmn:(m n).isSome=true:=by
  obtain⟨u,_,l⟩:=hl i n .non hi (by rw[getElem?_set_self hiσ]) (.inl hn);rcases l with⟨_,q⟩|⟨q,_⟩
  .rw[q];rfl
  .rcases q with q|q<;>(rw[hk]at q;cases q)
 simp only[hk,hcls];rw[if_neg (by decide)];refine ad (wpAny_nsDel_keeps hm λh2 v hn2 hs2=>?_);rw[hmn];simp only[if_true,Bool.not_true,Bool.false_eq_true,if_false];refine am (wpAny_point (h { s1 with heap:=h2 } ?_));obtain⟨oL,esL,epL,hoL,_⟩:=id hm;have yk:=I1.yk;refine⟨I1.ok,I1.os,I1.bare,⟨λb o e n hb hx=>?_,λb o e n hb hx=>?_,I1.base.free,λb o e hx=>?_,I1.base.tups,I1.base.frzs,I1.base.tbls⟩,⟨_,hn2,λj y v' e1 e2 e3=>?_⟩,λy c e=>?_,I1.free,I1.freeC,λp hp=>?_,λa u ha=>?_,by rw[length_set];exact I.len⟩
 .exact(hs2.2 b (pi (ol (ut e) I1.ok.above))).trans (I1.base.keep b o e n hb hx)
 .obtain⟨sl,q⟩:=I1.base.slot b o e n hb hx;exact⟨sl,(hs2.2 b (pi (ol (ut e) I1.ok.above))).trans q⟩
 .obtain⟨o',q⟩:=I1.base.there b o e hx;exact⟨o',(hs2.2 b (pi (ol (ut e) I1.ok.above))).trans q⟩
 .have hj:j≠i:=λz=>by rw[z,getElem?_set_self hiσ]at e2;cases e2
  rw[getElem?_set_ne (Ne.symm hj)]at e2;obtain⟨u,r,q⟩:=hl j y v' e1 (by rw[getElem?_set_ne (Ne.symm hj)];exact e2) e3;refine⟨u,r,?_⟩;rcases q with⟨k,e⟩|⟨k,c,e,z⟩
  .refine .inl ⟨k,?_⟩;have ny:y≠n:=λz=>hj (lx hN e1 (z▸hi))
   show(if y=n then v else m y)=some u;rw[if_neg ny];exact e
  .exact .inr ⟨k,c,e,z.sameBut hs2 (yk y c e)⟩
 .obtain⟨w',z⟩:=I1.cell y c e;exact⟨w',z.sameBut hs2 (yk y c e)⟩
 .obtain⟨e,n,ne,nf,d⟩:=I1.pin p hp;exact⟨(hs2.2 p.1 ne).trans e,n,ne,nf,d⟩
 .refine(I1.hok a u ha).jR (λb o hb hq=>(hs2.2 b ?_).trans hq) (λ_ q=>q) λ_ _ q=>q
  rintro rfl;rcases hb with hb|hb
  .rw[<-hb,I1.free]at ha;cases ha
  .rw[I1.free]at hb;cases hb
@[reducible]def Cx.gf (X:Cx) (Y:MD) (xe:MC):Cx:={ X with pn:=X.pn++Y,xe:=xe }
def Cx.Ok.gf (ok:X.Ok)(Y:MD)(xe:MC):(X.gf Y xe).Ok:=
 ⟨ok.mod,ok.kind,ok.glob,ok.blt,ok.above,ok.inj,ok.has,ok.cab,ok.hd,ok.frames,ok.stk,ok.exf,ok.bs,ok.bsz,ok.noex,ok.exfs,ok.jM,ok.frf⟩
def Inv.gf (I:Inv X Y U H s)(xe:MC):Inv (X.gf Y xe) [] U H s:=
 ⟨I.ok.gf Y xe,I.os,I.bare,I.base,I.loc,I.cell,I.free,I.freeC,λp hp=>I.pin p (by simpa using hp),I.hok,I.len⟩
def Inv.gd (ok:X.Ok)(I:Inv (X.gf Y xe) ps U H s):Inv X Y U H s:=
 ⟨ok,I.os,I.bare,I.base,I.loc,I.cell,I.free,I.freeC,λp hp=>I.pin p (mem_append_left _ hp),I.hok,I.len⟩
def SP.gd {f:Flow}(ok:X.Ok)(h:SP (X.gf Y xe) ps D f s):SP X Y D f s:=by
 cases f with
 |next=>obtain⟨σ',H',I,q⟩:=h;exact⟨σ',H',I.gd ok,q⟩
 |brk=>obtain⟨σ',H',I,q⟩:=h;exact⟨σ',H',I.gd ok,q⟩
 |cont=>obtain⟨σ',H',I,q⟩:=h;exact⟨σ',H',I.gd ok,q⟩
 |ret u=>obtain⟨v,σ',H',I,r,q⟩:=h;exact⟨v,σ',H',I.gd ok,r,q⟩
def Ew {body:List Stmt}{h0:ExceptHandler}{hs:List ExceptHandler}{pos:Pos}{E':St->XK}(I:Inv X Y U H s)(hstk:X.stack=X.env::X.outer)(hfr:X.env.frame=some X.env.locals)
  (hb:∀ xe,GV (X.gf Y xe) E'->PassesOwn (model X.prog X.w) X.A X.env xe->wpAny (model X.prog X.w) X.A (execs body X.env) (SP (X.gf Y xe) [] D) xe s)
  (hh:∀ (U:St) (H:Hp) (s:Shared) (e C:Addr) (dx:Option Addr) (fs:List (Str×V)) (T:Addr),Inv X Y U H s->H e=some (.exc C dx fs false)->X.s₀.heap.objs.size<=T->H T=none->(∀ p ∈ X.pn++Y,p.1≠T)->Av s.heap e T .none->E' U e H->
   wpAny (model X.prog X.w) X.A (handleBy (.ref e) X.env (h0::hs)) (SP X Y D) X.xe s):
  wpAny (model X.prog X.w) X.A (exec (.Try body (h0::hs) [] [] pos) X.env) (SP X Y D) X.xe s:=by
 refine wpAny_Try_except (wpAny_mono (hb (λu s1=>wpAny (model X.prog X.w) X.A (noteFrame u X.env) (λ_ s2=>wpAny (model X.prog X.w) X.A (setFlight u none) (λ_ s3=>wpAny (model X.prog X.w) X.A (handleBy u X.env (h0::hs)) (SP X Y D) X.xe s3) X.xe s2) X.xe s1) ?_ PassesOwn.looking) (λf s1 h1=>?_) λ_ _ z=>z)
 .intro σ' H' s' e C dx fs J sf he q;exact mL (X:=X.gf Y _) J hstk hfr sf he λs2 T J2 _ hT hH hp st=>hh σ' H' s2 e C dx fs T (J2.gd I.ok) he hT hH hp st q
 .have h2:=SP.gd I.ok h1;cases f with
  |next=>exact wpAny_execs_nil h2
  |brk=>exact h2
  |cont=>exact h2
  |ret u=>exact h2
def qD {n x:Str}{np hpos:Pos}{b0:Stmt}{bM:List Stmt}{rest:List ExceptHandler}{i:Nat}{e C Ch T:Addr}{fs:List (Str×V)}{b:Bool}(I:Inv X Y U H s)(he:H e=some (.exc C dx fs false))
  (hT:X.s₀.heap.objs.size<=T) (hH:H T=none) (hp:∀ p ∈ X.pn++Y,p.1≠T) (st:Av s.heap e T .none) (c:cU X.K C) (ch:cU X.K Ch) (hsub:W.mroIn X.K C (.ref Ch)=some b) (hg:Gl X x) (hm:X.mg x=some (.ref Ch))
  (hN:X.N.Nodup) (hi:X.N[i]? =some n) (hn:X.env.scope.names.lookup n=some .local) (hdb:(x ==("__debug__":Str))=false)
  (yes:b=true->∀ s2,Inv (X.bM (.ref e)) Y (U.set i (some (.ref e))) H s2->wpAny (model X.prog X.w) (X.A.mark (some (.ref e))) (execs (b0::bM) X.env)
   (SP (X.bM (.ref e)) Y { nx:=λσ' H'=>D.nx (σ'.set i none) H',rt:=D.rt,bk:=λσ' H'=>D.bk (σ'.set i none) H',ct:=λσ' H'=>D.ct (σ'.set i none) H' }) (λ_ _=>False) s2)
  (no:b=false->wpAny (model X.prog X.w) X.A (handleBy (.ref e) X.env rest) (SP X Y D) X.xe s):
  wpAny (model X.prog X.w) X.A (handleBy (.ref e) X.env (.ExceptHandler (some (.Name x np)) (some n) (b0::bM) hpos::rest)) (SP X Y D) X.xe s:=by
 have I':=I.bM (.ref e);refine wpAny_handleBy_cons (codeAny_handlers_test (bL (X:=X.bM (.ref e)) I' hg hm ?_ hdb)) (by intro q;cases q);obtain⟨⟨vs,ho,hsz,h1⟩,z⟩:=id (I.hok e _ he);have L0:Looks (model X.prog X.w) s.heap (typeOf (.ref e)) (.ref C):=(Looks.ld ho).andThen .now;have L1:Looks (model X.prog X.w) s.heap (typeOf (.ref Ch)) (.type "type"):=looks_typeIn I.b9 ch.mt;have L2':Looks (model X.prog X.w) s.heap (isInstance (.ref Ch) (.type "tuple")) false:=L1.andThen (Looks.of_pure tc_notTuple);have L3:Looks (model X.prog X.w) s.heap (isType (.ref Ch)) true:=by
  obtain⟨cd,rs,hcl,_⟩:=ch.mro;unfold W.clsIn at hcl
  split at hcl
  .rename_i ho';intro A' Q' E' s' k q;unfold isType loadHead;exact ad (wpAny_loadPart (k _ _ (I.b9 _ _ ho')) (am q))
  .cases hcl
 have L4:Looks (model X.prog X.w) s.heap (isSubtype (.ref Ch) (.type "BaseException")) true:=looks_mroIn I.b9 (ch.sub (by decide+kernel));have L5:Looks (model X.prog X.w) s.heap (isSubtype (.ref C) (.ref Ch)) b:=looks_mroIn I.b9 hsub;have L6:Looks (model X.prog X.w) s.heap (isExcClass (.ref Ch)) true:=by
  unfold isExcClass;exact L3.andThen L4
 unfold excMatches;refine ad (L2'.here ?_);rw[if_neg (by decide)];refine ad (am ?_);simp only[forIn_cons,forIn_nil];refine ad (ad (ad (L6.here ?_)));rw[if_neg (by decide)];refine am ?_;refine am ?_;refine ad (L0.here ?_);refine ad (ad (ad (L5.here ?_)));cases b with
 |false=>
  rw[if_neg (by decide)];refine am ?_;refine am ?_;refine am ?_;exact no rfl
 |true=>
  rw[if_pos rfl];refine am ?_;refine am ?_;refine am ?_;refine codeAny_handlers_suite_as (uM st λh2 pK oth _ th2 _=>?_);have I2:Inv X Y U H { s with heap:=h2 }:=by
   refine Inv.turned (it:=T) (h':=h2) (t':=s.toks) I (λb o hb hq=>(oth b hb).trans hq) hH ?_ (.inr hT) (λy cc hc z=>?_) hp
   .intro z;obtain⟨m,⟨o,es,ep,ho',hd,_⟩,_⟩:=I.loc;obtain⟨_,_,oT,ts,_,_,_,_,hT2,hd2,_⟩:=st;rw[z,ho']at hT2;cases hT2;rw[hd]at hd2;cases hd2
   .obtain⟨v,o,ho',hd⟩:=I.cell y cc hc;obtain⟨_,_,oT,ts,_,_,_,_,hT2,hd2,_⟩:=st;rw[<-z,ho']at hT2;cases hT2;rw[hd]at hd2;cases hd2
  refine bH (X:=X.bM (.ref e)) (I2.bM (.ref e)) hN hi (.inl hn) (v:=.ref e) rfl (λs3 I3=>?_) (.inr hn);refine wpAny_mono (yes rfl s3 I3) (λf s4 h4=>?_) λ_ _ z=>z.elim
  cases f with
  |next=>
   obtain⟨σ',H',J,q⟩:=h4;exact fE (J.j6 I.ok) hN hi hn λs5 J5=>⟨_,H',J5,q⟩
  |brk=>
   obtain⟨σ',H',J,q⟩:=h4;exact fE (J.j6 I.ok) hN hi hn λs5 J5=>⟨_,H',J5,q⟩
  |cont=>
   obtain⟨σ',H',J,q⟩:=h4;exact fE (J.j6 I.ok) hN hi hn λs5 J5=>⟨_,H',J5,q⟩
  |ret u=>
   obtain⟨v,σ',H',J,r,q⟩:=h4;exact fE (J.j6 I.ok) hN hi hn λs5 J5=>⟨v,_,H',J5,r,q⟩
end
end L2
namespace L2
open PySem PySem.Spec PyProof.Rows
def Eo:bootBuiltins "isinstance"=some (.builtin "isinstance"):=by decide+kernel
section
variable {X:Cx}
abbrev HM (K:W.Frag):V->V->Hp->VK->Prop:=λx y H Q=>∃ p xs i v,x=.ref p/\y=.int i/\aU K H p xs/\0<=i/\xs[i.toNat]? =some v/\Q v H
def ye:Ef X (HM X.K):=by
 intro Y s U H o i ov iv Q I ro ri h;obtain⟨p,xs,k,z,rfl,rfl,hq,h0,he,q⟩:=h;cases ro;obtain⟨t,rfl⟩:=ri;obtain⟨its,r,pl,hz⟩:=I.list hq;obtain⟨w,ew,rw'⟩:=r.get he;have hl:k.toNat<xs.length:=(tz.mp he).1;have hn:=f7;exact wpAny_getItem_list pl.isList h0 nofun (by simpa using ew) ⟨z,H,I,rw',q⟩
def kh {xs:List V}{us:List Value}(r:Vals xs us){j:Nat}(h:j<us.toArray.size):∃ x,xs[j]? =some x/\RelV x (us.toArray[j]):=by
 have hl:=r.length;have hj:j<us.length:=by simpa using h
 have e:xs[j]? =some xs[j]:=li nofun;obtain⟨u,h1,h2⟩:=r.get e;refine⟨_,e,?_⟩;rw[li hj]at h1;cases h1;simpa using h2
end
section
variable {U:St}{H:Hp}{Q:VK}{D:Ends}{K:W.Frag}
abbrev rG (x:V)(H:Hp)(R:Bool->Hp->Prop):Prop:=∃ k,x=.bl k/\R k H
def dq {α:Type}{xs:List α}{i:Int}(h0:0<=i)(h1:i<xs.length):∃ v,nZ xs i=some v/\v ∈ xs:=by
 obtain⟨n,rfl⟩:=sw h0;have hn:n<xs.length:=by omega
 exact⟨xs[n],nK (li hn),getElem_mem hn⟩
end
section
variable {K:W.Frag}{g:TG}{tb:TS}{D:Ends}{U:St}{H:Hp}{tl:TE}{ta:TA}
end
def fits {n:Nat}(h:n<=1000):n<=bn:=Nat.le_of_lt (dc h)
section
variable {X:Cx}{H:Hp}{Q:VK}
end
section
variable {K:W.Frag}
end
section
variable {H H':Hp}{h c p:Addr}{m n:Int}{o:HO}
end
def IS (ns:List Int)(h:ns.length<=63):gk (ns.map V.int) none (some 63)=ns.map V.int:=by
 have e1:HT.qJ (ns.map V.int).length 0 none=0:=rfl;have e2:HT.qJ (ns.map V.int).length (ns.map V.int).length (some 63)=(ns.map V.int).length:=by
  show(if(63:Int)<0 then((63:Int)+((ns.map V.int).length:Int)).toNat else min (63:Int).toNat (ns.map V.int).length)=(ns.map V.int).length;rw[if_neg (by decide),ce];show min 63 ns.length=ns.length
  omega
 unfold gk;rw[e1,e2,drop_zero,Nat.sub_zero,take_length]
variable {ns:List Int}
def sQ {i:Nat}{x:V}(h:(ns.map V.int)[i]? =some x):∃ z,x=V.int z:=by
 rw[io]at h;cases e:ns[i]? with
 |none=>rw[e]at h;cases h
 |some z=>rw[e]at h;exact⟨z,(Option.some.inj h).symm⟩
def Ac {i:Int}(h0:0<=i)(h1:i<ns.length):∃ z,nZ (ns.map V.int) i=some (.int z):=by
 obtain⟨v,a,m⟩:=dq (xs:=ns.map V.int) h0 (by rw[ce];exact h1);obtain⟨z,_,rfl⟩:=List.mem_map.mp m;exact⟨z,a⟩
section
variable {H:Hp}{Q:VK}
end
section
variable {X:Cx}
end
variable {A:Around}{E:MC}{s:Shared}
def Dx {α:Type}{t:Sem α}{Q Q':α->Shared->Prop}{M:Model}(h:wpAny M A t Q (λ_ _=>False) s) (hQ:∀ a s,Q a s->Q' a s):wpAny M A t Q' E s:=wpAny_mono h hQ λ_ _ x=>x.elim
abbrev fN (X:Cx)(scope:Scope)(cl:List (Str×Addr))(N:List Str)(s:Shared)(H:Hp)(fp:List Addr):Cx:=
 { X with N:=N,s₀:=s,H₀:=H,env:=compEnvC scope cl s.heap.objs.size X.env,outer:=X.stack,stack:=X.stack,ex:=fp,fn:=λ_=>false,pn:=[],xe:=λ_ _=>False }
structure bC (X:Cx) (scope:Scope) (cl:List (Str×Addr)) (xs:List Str) (fr:List Str) (sel:List Nat):Prop where
 clos:closureFor scope X.env=pure cl
 sub:∀ y c,cl.lookup y=some c->X.env.cells.lookup y=some c
 has:∀ y,((relabel scope X.env).names.lookup y=some .cell\/(relabel scope X.env).names.lookup y=some .free)->∃ c,cl.lookup y=some c
 kind:scope.kind=.function
 nocell:∀ y ∈ scope.names,y.2≠.cell
 names:∀ y ∈ scope.names,y.2=.local->scope.names.lookup y.1=some .local
 own:∀ x ∈ xs,scope.names.lookup x=some .local
 len:sel.length=fr.length
 out:∀ (j:Nat) (y:Str),fr[j]? =some y->∃ i,sel[j]? =some i/\X.N[i]? =some y/\X.env.scope.names.lookup y=some .cell/\(relabel scope X.env).names.lookup y=some .cell
 nd:(xs++fr).Nodup
abbrev hR (U:St)(sel:List Nat):St:=sel.map λi=>U.getD i none
abbrev LC (te:TE)(J:It)(σ₀:St)(H1:Hp)(Q:VK):Prop:=∀ D,H1 D=none->∃ W:Nat->Nat->St->Hp->Prop,(∃ m,W 0 m σ₀ (upd H1 D (.lst [])))/\∀ i m σ' H',W i m σ' H'->
 (J.stop i H'/\Q (.ref D) H')\/(J.go i H'/\∃ N:St->Hp->Prop,(∀ σ2 H2,N σ2 H2->∃ m',m'<m/\W (i+1) m' σ2 H2)/\
  ∀ x H'',J.yld i H' x H''->te (σ'.set 0 (some x)) H'' λv H3=>∃ zs,H3 D=some (.lst zs)/\zs.length<bn/\N (σ'.set 0 (some x)) (upd H3 D (.lst (zs++[v]))))
abbrev gate (env:Env):List Expr->Sem Bool
 | []=>pure true
 |c::_=>isTrue c env (eval c env)
variable {ifs:List Expr}{scope:Scope}{pos:Pos}
def uI {M:Model}{elt target iter:Expr}{it acc:Value}{env:Env}{Q:PySem.Fin->Shared->Prop}(hi:ifs.length<=1)
  (h:wpAny M A (pyNext it) (λr s1=>match r with
   |none=>Q (.done .next) s1
   |some v=>wpAny M A (letOwnedTupleGo target it v) (λ_ s2=>wpAny M A (assign target env v) (λ_ s3=>wpAny M A (gate env ifs) (λok s4=>
    (ok=true->wpAny M A (eval elt env) (λx s5=>wpAny M A (call (.builtin "list.append") [acc,x]) (λ_ s6=>wpAny M A (again (.compLoop (.ListComp elt [⟨target,iter,ifs,0⟩] scope pos) 0 it acc env)) Q E s6) E s5) E s4)/\
    (ok=false->wpAny M A (again (.compLoop (.ListComp elt [⟨target,iter,ifs,0⟩] scope pos) 0 it acc env)) Q E s4)) E s3) E s2) E s1) E s):
  wpAny M A (compTurn (.ListComp elt [⟨target,iter,ifs,0⟩] scope pos) 0 it acc env) Q E s:=by
 have key:∀ {g:Sem Bool}{K:Sem PySem.Fin}{s:Shared},wpAny M A g (λok s4=>
    (ok=true->wpAny M A (eval elt env) (λx s5=>wpAny M A (call (.builtin "list.append") [acc,x]) (λ_ s6=>wpAny M A K Q E s6) E s5) E s4)/\
    (ok=false->wpAny M A K Q E s4)) E s->wpAny M A (g >>= λok=>if ok=true then(eval elt env >>= λx=>call (.builtin "list.append") [acc,x] >>= λ_=>pure ()) >>= λ_=>K else K) Q E s:=λ{g K s} h=>by
  refine ad (wpAny_mono h (λok s4 h4=>?_) λ_ _ e=>e);cases ok with
  |false=>exact h4.2 rfl
  |true=>exact ad (ad (wpAny_mono (h4.1 rfl) (λx s5 h5=>ad (wpAny_mono h5 (λ_ s6 h6=>am h6) λ_ _ e=>e)) λ_ _ e=>e))
 match ifs,hi with
 | [],_=>
  rw[compTurn_list1];refine ad (wpAny_standAt (ad (wpAny_mono h (λr s1 h1=>?_) λ_ _ e=>e)));cases r with
  |none=>exact am h1
  |some v=>
   refine ad (wpAny_mono h1 (λ_ s2 h2=>ad (wpAny_mono h2 (λ_ s3 h3=>?_) λ_ _ e=>e)) λ_ _ e=>e);exact key (g:=pure true) h3
 | [c],_=>
  unfold compTurn;simp only[List.getElem?_cons_zero,List.getElem?_cons_succ,List.getElem?_nil];dsimp only[forIn,List.forIn',List.forIn'.loop,forIn'];rw[if_neg (by decide),if_neg (by decide)];refine ad (wpAny_standAt (ad (wpAny_mono h (λr s1 h1=>?_) λ_ _ e=>e)));cases r with
  |none=>exact am h1
  |some v=>
   refine ad (wpAny_mono h1 (λ_ s2 h2=>ad (wpAny_mono h2 (λ_ s3 h3=>?_) λ_ _ e=>e)) λ_ _ e=>e);refine key ?_;rw[if_pos rfl];refine ad (ad (wpAny_mono h3 (λok s4 h4=>am ?_) λ_ _ e=>e));exact am h4
abbrev LCg (tg:TG)(tc:TT)(te:TE)(J:It)(σ₀:St)(H1:Hp)(Q:VK):Prop:=∀ D,H1 D=none->∃ W:Nat->Nat->St->Hp->Prop,(∃ m,W 0 m σ₀ (upd H1 D (.lst [])))/\∀ i m σ' H',W i m σ' H'->
 (J.stop i H'/\Q (.ref D) H')\/(J.go i H'/\∃ N:St->Hp->Prop,(∀ σ2 H2,N σ2 H2->∃ m',m'<m/\W (i+1) m' σ2 H2)/\
  ∀ x H'',J.yld i H' x H''->tg x σ' H'' λσ2 H2=>tc σ2 H2 λb H3=>(b=true->te σ2 H3 λv H4=>∃ zs,H4 D=some (.lst zs)/\zs.length<bn/\N σ2 (upd H4 D (.lst (zs++[v]))))/\(b=false->N σ2 H3))
abbrev yes:TT:=λ_ H Q=>Q true H
variable {te:TE}
def LC.g {J:It}{σ₀:St}{H1:Hp}{Q:VK}(h:LC te J σ₀ H1 Q):LCg (iq 0) yes te J σ₀ H1 Q:=λD hD=>by
 obtain⟨W,w0,turn⟩:=h D hD;refine⟨W,w0,λi m σ' H' w=>?_⟩;rcases turn i m σ' H' w with z|⟨go,N,hN,step⟩
 .exact .inl z
 .exact .inr ⟨go,N,hN,λx H'' y=>⟨λ_=>step x H'' y,λe=>nomatch e⟩⟩
abbrev JD (X:Cx)(ifs:List Expr)(tc:TT):Prop:=ifs.length<=1/\∀ (Y:MD) (s:Shared) (U:St) (H:Hp) (Q:Bool->Hp->Prop),Inv X Y U H s->tc U H Q->wpAny (model X.prog X.w) X.A (gate X.env ifs) (TP X Y U Q) X.xe s
variable {X:Cx}
def j8:JD X [] yes:=⟨Nat.zero_le _,λY s U H Q I q=>am ⟨H,I,q⟩⟩
def Cu {c:Expr}{tc:TT}(h:PT X c tc):JD X [c] tc:=⟨re _,h⟩
abbrev pQ (xs:List Str):St:=xs.map λ_=>none
abbrev Lk (wi:TI)(te:TE)(sel:List Nat):TE:=λU H Q=>wi U H λJ H1=>LC te J (none::hR U sel) H1 Q
abbrev Ih (wi:TI)(tg:TG)(tc:TT)(te:TE)(xs:List Str)(sel:List Nat):TE:=λU H Q=>wi U H λJ H1=>LCg tg tc te J (pQ xs++hR U sel) H1 Q
variable {cl:List (Str×Addr)}{xs fr:List Str}{sel:List Nat}{fp:List Addr}
section
variable {X:Cx}
def Un.sameBut {fs ex:List Addr}{H H':Hp}{h h1 h2:Heap}{C:Addr}(u:Un fs ex H H' h h1)(hs:Heap.SameBut C h1 h2)(hC:h.objs.size<=C):Un fs ex H H' h h2:=by
 have ne:∀ b o,h.get? b=some o->b≠C:=λb o e=>pi (ol (ut e) hC)
 refine⟨λb o e n hb hx=>(hs.2 b (ne b o e)).trans (u.keep b o e n hb hx),λb o e n hb hx=>?_,u.free,λb o e hx=>?_,u.tups,u.frzs,u.tbls⟩
 .obtain⟨sl,q⟩:=u.slot b o e n hb hx;exact⟨sl,(hs.2 b (ne b o e)).trans q⟩
 .obtain⟨o',q⟩:=u.there b o e hx;exact⟨o',(hs.2 b (ne b o e)).trans q⟩
def qo {Y:MD}{U:St}{H:Hp}{h':Heap}{tk:Nat}{m':ME}
  (S:bC X scope cl xs fr sel) (I:Inv X Y U H s) (f2:∀ b ∈ fp,iY X Y H b) (fo:∀ b ∈ fp,b<s.heap.objs.size) (hns:h'.Ns s.heap.objs.size m') (keep:∀ b o,s.heap.get? b=some o->h'.get? b=some o):
  Inv (fN X scope cl (xs++fr) s H fp) (X.pn++Y) (pQ xs++hR U sel) H { s with heap:=h',toks:=tk }:=by
 have stk:∀ b,b≠X.env.locals->b ∉ X.fs->b ∉ oA X.stack:=λb h1 h2 hb=>(nb.mp (I.iU b hb)).elim h1 h2
 refine⟨⟨I.ok.mod,S.kind,I.ok.glob,I.ok.blt,re _,λy z c h1 h2=>I.ok.inj y z c (S.sub y c h1) (S.sub z c h2),λy hy=>S.has y hy,(λy c h=>nomatch h),I.ok.hd,I.ok.frames,.inl rfl,λb hb=>⟨pi (fo b hb),λy c h=>(f2 b hb).2.2.2.2.1 y c (S.sub y c h)⟩,I.bs,
  Nat.le_trans I.ok.bsz I.sz,λb o e hb=>?_,λb hb=>stk b (f2 b hb).2.1 (f2 b hb).2.2.1,I.stack,I.oo⟩,
  rfl,I.bare,Un.kept keep,⟨m',hns,λi y v e1 e2 e3=>?_⟩,λy c h=>?_,I.hok.fresh (re _),λy c h=>I.freeC y c (S.sub y c h),λp hp=>?_,I.hok.kept keep,?_⟩
 .rcases(f2 b hb).2.2.2.1 with z|z
  .exact I.ok.noex b o e z
  .exact absurd (ol (ol (ut e) I.ok.bsz) z) (Nat.lt_irrefl _)
 .have hln:(pQ xs).length=xs.length:=ce ..
  by_cases hlt:i<xs.length
  .rw[List.getElem?_append_left (by rw[hln];exact hlt)]at e2;unfold pQ at e2;rw[io,li hlt]at e2;cases e2
  .obtain⟨j,rfl⟩:∃ j,i=xs.length+j:=⟨i-xs.length,by omega⟩;have e1':fr[j]? =some y:=by
    have e1:(xs++fr)[xs.length+j]? =some y:=e1;rw[List.getElem?_append_right nofun,show xs.length+j-xs.length=j by omega]at e1;exact e1
   obtain⟨i,hi,hN,k1,k2⟩:=S.out j y e1';have e2':(hR U sel)[j]? =some (some v):=by
    rw[List.getElem?_append_right (by rw[hln];omega),hln,show xs.length+j-xs.length=j by omega]at e2;exact e2
   have e4:U[i]? =some (some v):=by
    unfold hR at e2';rw[io,hi]at e2';have e5:U.getD i none=some v:=Option.some.inj e2';rw[List.getD_eq_getElem?_getD]at e5;cases e6:U[i]? with
    |none=>rw[e6]at e5;cases e5
    |some z=>rw[e6]at e5;exact congrArg some e5
   obtain⟨m,hn,hl⟩:=I.loc;obtain⟨u,r,l⟩:=hl i y v hN e4 (.inr (.inl k1));refine⟨u,r,.inr ⟨.inl k2,?_⟩⟩;rcases l with⟨hk,_⟩|⟨_,c,hc,o,ho,hd⟩
   .have hk':X.env.scope.names.lookup y=some .local:=hk;rw[k1]at hk';cases hk'
   .obtain⟨c',hc'⟩:=S.has y (.inl k2);have:=(S.sub y c' hc').symm.trans hc;cases this;exact⟨c,hc',o,keep c o ho,hd⟩
 .obtain⟨v,o,ho,hd⟩:=I.cell y c (S.sub y c h);exact⟨v,o,keep c o ho,hd⟩
 .obtain⟨e,n,ne,nf,d⟩:=I.pin p (by simpa[fN] using hp);exact⟨keep p.1 p.2 e,n,pi (ut e),stk p.1 ne nf,d⟩
 .show(pQ xs++hR U sel).length=(xs++fr).length;unfold hR pQ;simp[S.len]
def mN {elt iter tgt:Expr}{wi:TI}{tg:TG}{tc:TT}(hc:X.calm=true)(S:bC X scope cl xs fr sel)(hi:PI X tgt iter wi)
  (hg:∀ (s:Shared) (H:Hp) (fp:List Addr),PG (fN X scope cl (xs++fr) s H fp) tgt tg) (ht:∀ (s:Shared) (H:Hp) (fp:List Addr),JD (fN X scope cl (xs++fr) s H fp) ifs tc)
  (he:∀ (s:Shared) (H:Hp) (fp:List Addr),PE (fN X scope cl (xs++fr) s H fp) elt te) (hs:∀ x,foldedSetIterable iter X.env x=pure x):PE X (.ListComp elt [⟨tgt,iter,ifs,0⟩] scope pos) (Ih wi tg tc te xs sel):=by
 intro Y s U H Q I h;rw[eval_ListComp];refine wpAny_comprehension_free (use:=none) rfl hs S.clos S.kind S.names ?_;refine aB (hi Y s U H _ I h) λv s1 h1=>aB h1 λitv s2 h2=>?_
 obtain⟨it,fp,tn,J,H2,e,I2,T,pK,f2,h2⟩:=h2;subst e;refine wpAny_newObj_type ?_;have hD:H2 s2.heap.objs.size=none:=I2.hok.fresh (re _);have I3:Inv X Y U (upd H2 s2.heap.objs.size (.lst [])) { s2 with heap:=s2.heap.push { cls:=.type "list",dict:=none,data:=.seq ([]:List Value).toArray } }:=
  I2.laid (t':=s2.toks) (λb u e=>ul _ e) (re _) ⟨Nat.zero_le _,[],0,.nil,v6 _ rfl⟩
 have fo2:∀ b ∈ fp,b<s2.heap.objs.size:=λb hb=>by
  obtain⟨o,ho,_⟩:=T.obj _ _ pK b hb;exact ut ho
 have f3:∀ b ∈ fp,iY X Y (upd H2 s2.heap.objs.size (.lst [])) b:=λb hb=>⟨by rw[ai (pi (fo2 b hb))];exact(f2 b hb).1,(f2 b hb).2⟩
 have st3:tn 0 (s2.heap.push { cls:=.type "list",dict:=none,data:=.seq ([]:List Value).toArray }):=T.keep _ _ _ pK λb hb o e=>ul _ e
 have fo3:∀ b ∈ fp,b<(s2.heap.push { cls:=.type "list",dict:=none,data:=.seq ([]:List Value).toArray }).objs.size:=λb hb=>by
  rw[Heap.size_push];exact Nat.lt_succ_of_lt (fo2 b hb)
 obtain⟨W,⟨m0,w0⟩,turn⟩:=h2 _ hD;generalize s2.heap.objs.size=D at*;generalize hs3:({ s2 with heap:=s2.heap.push { cls:=.type "list",dict:=none,data:=.seq ([]:List Value).toArray } }:Shared)=s3 at*;have st3':tn 0 s3.heap:=by rw[<-hs3];exact st3
 have fo3':∀ b ∈ fp,b<s3.heap.objs.size:=by rw[<-hs3];exact fo3
 refine wpAny_newFunctionEnv S.nocell (by intro y hy;simp at hy) (λh' hns hsb=>?_) S.kind;have keep:∀ b o,s3.heap.get? b=some o->h'.get? b=some o:=λb o e=>(hsb.2 b (pi (ut e))).trans (ul _ e)
 have I4:=qo (tk:=s3.toks+([]:List (Str×Value)).length) S I3 f3 fo3' hns keep;have st4:tn 0 h':=T.keep _ _ _ st3' λb hb o e=>keep b o e
 have stat:∀ {H':Hp},(∀ b ∈ fp,H' b=none)->∀ b ∈ fp,iY (fN X scope cl (xs++fr) s3 (upd H2 D (.lst [])) fp) (X.pn++Y) H' b:=λ{H'} hn b hb=>
  ⟨hn b hb,pi (fo3' b hb),λz=>(nb.mp (I3.iU b z)).elim (f3 b hb).2.1 (f3 b hb).2.2.1,.inl hb,λy c hy=>(f3 b hb).2.2.2.2.1 y c (S.sub y c hy),λp hp=>(f3 b hb).2.2.2.2.2 p (by simpa[fN] using hp)⟩
 have loop:codeAny (model X.prog X.w) X.A (.compLoop (.ListComp elt [⟨tgt,iter,ifs,0⟩] scope pos) 0 (.ref it) (.ref D) (compEnvC scope cl s3.heap.objs.size X.env))
   (compPost (model X.prog X.w) X.A X.xe none (EP X Y U Q) (.ref D) s3.heap.objs.size) { s3 with heap:=h',toks:=s3.toks+([]:List (Str×Value)).length }:=by
  refine codeAny_loop rfl (λn s'=>∃ i σ' H',Inv (fN X scope cl (xs++fr) s3 (upd H2 D (.lst [])) fp) (X.pn++Y) σ' H' s'/\tn i s'.heap/\(∀ b ∈ fp,H' b=none)/\W i n σ' H') (λn s5 hI=>?_) m0 ⟨0,_,_,I4,st4,λb hb=>(f3 b hb).1,w0⟩;show wpAny _ _ ((compTurn (.ListComp elt [⟨tgt,iter,ifs,0⟩] scope pos) 0 (.ref it) (.ref D) (compEnvC scope cl s3.heap.objs.size X.env)).onRaise (λx=>do noteFrame x (compEnvC scope cl s3.heap.objs.size X.env);theTreesLotGoes x)) _ _ s5;refine wpAny_noted ?_;refine uI (ht s3 (upd H2 D (.lst [])) fp).1 ?_;obtain⟨i,σ5,H5,I5,st5,fr5,w5⟩:=hI;rcases turn i n σ5 H5 w5 with⟨stop,q⟩|⟨go,Nn,hN,step⟩
  .refine aB (T.done (fN X scope cl (xs++fr) s3 (upd H2 D (.lst [])) fp) rfl rfl rfl hc i _ s5 σ5 H5 _ I5 (stat fr5) st5 stop) λr s6 ⟨hr,I6⟩=>?_
   subst hr;obtain⟨m,hn,_⟩:=I6.loc;refine⟨m,hn,λh'' hs''=>⟨.ref D,H5,I3.zP (ch:=fp) I6.os (I6.base.sameBut hs'' (re _)) (λb ob e=>?_) I6.bare λb hb=>⟨(f3 b hb).2.2.2.1,(f3 b hb).2.1,(f3 b hb).2.2.2.2.1,(f3 b hb).2.2.2.2.2⟩,rfl,q⟩⟩;refine(I6.hok b ob e).jR (λc w' hc' q'=>(hs''.2 c ?_).trans q') (λ_ q'=>q') λ_ _ q'=>q'
   have fC:H5 s3.heap.objs.size=none:=I6.free;intro z;rcases hc' with z2|z2
   .rw[z2]at z;rw[z,fC]at e;cases e
   .rw[z,fC]at z2;cases z2
  .have fin:∀ {σ8:St}{H10:Hp}{s10:Shared},Inv (fN X scope cl (xs++fr) s3 (upd H2 D (.lst [])) fp) (X.pn++Y) σ8 H10 s10/\tn (i+1) s10.heap/\(∀ b ∈ fp,H10 b=none)->Nn σ8 H10->∃ m',m'<n/\∃ i σ' H',Inv (fN X scope cl (xs++fr) s3 (upd H2 D (.lst [])) fp) (X.pn++Y) σ' H' s10/\tn i s10.heap/\(∀ b ∈ fp,H' b=none)/\W i m' σ' H':=λ⟨I,t,f⟩ nn=>by
    obtain⟨m',hm,w10⟩:=hN _ _ nn;exact⟨m',hm,i+1,_,_,I,t,f,w10⟩
   refine aB (T.item (fN X scope cl (xs++fr) s3 (upd H2 D (.lst [])) fp) rfl rfl rfl hc i _ s5 σ5 H5 _ I5 (stat fr5) st5 go) λr s6 ⟨u,hr,h6⟩=>?_
   subst hr;refine aB h6 λ_ s7 ⟨xv,H7,I7,r7,y7,st7,fr7⟩=>?_
   have I7':=I7.pinned (stat fr7) (T.obj _ _ st7);refine Dx (hg s3 _ fp _ s7 σ5 H7 xv u _ I7' r7 (step xv _ y7)) λ_ s8 ⟨σ8,H8,I8,q8⟩=>?_
   refine Dx ((ht s3 _ fp).2 _ s8 σ8 H8 _ I8 q8) λok s9 ⟨H9,I9,q9⟩=>?_
   have back:∀ {H10:Hp}{s10:Shared},Inv (fN X scope cl (xs++fr) s3 (upd H2 D (.lst [])) fp) _ σ8 H10 s10->Inv (fN X scope cl (xs++fr) s3 (upd H2 D (.lst [])) fp) (X.pn++Y) σ8 H10 s10/\tn (i+1) s10.heap/\(∀ b ∈ fp,H10 b=none):=λ{H10 s10} I10=>⟨I10.fq,T.keep _ _ _ st7 λb hb o e=>(I10.pin (b,o) (im _ (im _ (bX hb e)))).1,λb hb=>by
    obtain⟨o,e,d⟩:=T.obj _ _ st7 b hb;exact(I10.pin (b,o) (im _ (im _ (bX hb e)))).2.1⟩
   refine⟨λek=>?_,λek=>am ⟨rfl,fin (back I9) (q9.2 ek)⟩⟩;refine Dx (he s3 _ fp _ s9 _ _ _ I9 (q9.1 ek)) λuv s10 ⟨vv,H10,I10,r10,zs,hz,hzl,n10⟩=>?_
   refine Dx (i6 (X:=fN X scope cl (xs++fr) s3 (upd H2 D (.lst [])) fp) _ s10 _ H10 (.ref D) [vv] (.ref D) [uv] (λ_ H'=>H'=upd H10 D (.lst (zs++[vv]))) I10 rfl (.cons r10 .nil) ⟨D,zs,vv,rfl,rfl,hz,hzl,rfl⟩) λ_ s11 ⟨_,H11,I11,_,e11⟩=>?_
   subst e11;exact am ⟨rfl,fin (back I11) n10⟩
 exact codeAny_compStart_list loop (T.self _ 0 _ _ _ st4 loop)
def rW {x:Str}{px:Pos}{H:Hp}(S:bC X scope cl [x] fr sel):PG (fN X scope cl ([x]++fr) s H fp) (.Name x px) (iq 0):=iD S.nd rfl (.inl (lookup_relabel_local (S.own x (mo ..)))) (.inr (lookup_relabel_local (S.own x (mo ..))))
abbrev Mv (wi:TI):TI:=λU H R=>∃ R0:It->Hp->Prop,wi U H R0/\∀ J H,R0 J H->R J H
def PI.up {tg iter:Expr}{wi:TI}(h:PI X tg iter wi):PI X tg iter (Mv wi):=λY s U H R I ⟨R0,q,m⟩=>
 aB (h Y s U H R0 I q) λv s1 h1=>wpAny_mono h1 (λitv s2 ⟨it,fp,tn,J,H',e,I,T,t0,f,r⟩=>⟨it,fp,tn,J,H',e,I,T,t0,f,m _ _ r⟩) λ_ _ e=>e
def zX {elt iter:Expr}{x:Str}{px:Pos}{wi:TI}(hc:X.calm=true)(S:bC X scope cl [x] fr sel)(hi:PI X (.Name x px) iter wi)
  (he:∀ (s:Shared) (H:Hp) (fp:List Addr),PE (fN X scope cl (x::fr) s H fp) elt te) (hs:∀ x,foldedSetIterable iter X.env x=pure x):PE X (.ListComp elt [⟨.Name x px,iter,[],0⟩] scope pos) (Lk wi te sel):=λY s U H Q I h=>
 mN (tg:=iq 0) hc S hi.up (λs H fp=>rW S) (λ_ _ _=>j8) he hs Y s U H Q I ⟨_,h,λ_ _ q=>q.g⟩
end
section
variable {U:St}{H:Hp}{Q:VK}{te tl:TE}{ta:TA}{sel:List Nat}{σ₀ rest:St}{K:W.Frag}
end
def dJ {env:Env}:∀ {names:List (Str×NameKind)}{y:Str}{k':NameKind},(names.map λ(n,k)=>if(k ==NameKind.free&&env.scope.kind ==.function&&env.kindOf n ==some .cell) then(n,NameKind.cell) else(n,k)).lookup y=some k'->∃ k,(y,k) ∈ names/\(k'=k\/(k=.free/\k'=.cell))
 | [],_,_,h=>by simp at h
 |(n,k)::r,y,k',h=>by
  rw[map_cons,lookup_cons]at h
  by_cases hc:(k ==NameKind.free&&env.scope.kind ==.function&&env.kindOf n ==some .cell)=true
  .simp only[hc,if_true]at h
   by_cases e:y=n
   .subst e;simp at h;simp at hc;exact⟨k,mo,.inr ⟨hc.1.1,h.symm⟩⟩
   .rw[show(y ==n)=false from beq_eq_false_iff_ne.mpr e]at h;obtain⟨k2,m,q⟩:=dJ (env:=env) h;exact⟨k2,dL _ m,q⟩
  .rw[Bool.not_eq_true]at hc;simp only[hc,Bool.false_eq_true,if_false]at h
   by_cases e:y=n
   .subst e;simp at h;exact⟨k,mo,.inl h.symm⟩
   .simp only[show(y ==n)=false from beq_eq_false_iff_ne.mpr e]at h;obtain⟨k2,m,q⟩:=dJ (env:=env) h;exact⟨k2,dL _ m,q⟩
section
variable {K:W.Frag}
end
section
variable {K:W.Frag}{H:Hp}
end
section
variable {U:St}{H:Hp}{Q:VK}
end
abbrev notStar:Expr->Bool
 | .Starred ..=>false
 |_=>true
variable {es:List Expr}
def ah {e:Expr}{env:Env}(h:notStar e=true):bm (e::es) env=(false,eval e env)::bm es env:=by
 cases e<;>first|rfl|cases h
def k8 {e:Expr}{t:TA}(ha:PE X e te)(hr:PA X es t)(h:notStar e=true:=by rfl):PA X (e::es) (DP te t):=Df ha hr (ah h)
section
variable {X:Cx}{Y:MD}{U:St}{H:Hp}{s:Shared}{h':Heap}
def Inv.qX {t':Nat}{ch:List Addr}{a:Addr}{o:HO}(I:Inv X Y U H s)(k:∀ b u,b ∉ ch->s.heap.get? b=some u->h'.get? b=some u) (hf:∀ b ∈ ch,iY X Y H b)
  (hp:s.heap.objs.size<=a) (new:aS X.prog X.w (upd H a o) h' a o):Inv X Y U (upd H a o) { s with heap:=h',toks:=t' }:=by
 have hn:H a=none:=I.hok.fresh hp;have nch:∀ b u,H b=some u->b ∉ ch:=λb u e z=>by rw[(hf b z).1]at e;cases e
 refine I.step (g':=s.gens) (d':=s.drawn) (ch:=ch) (λb hb=>?_) (λb o _ _ hc e _=>k b o hc e) (λb o _ _ hc e _=>⟨o.slots,k b o hc e⟩) (λb o hc e n=>?_)
  (λb o hc e=>⟨o,k b o hc e⟩) (λb xs e=>?_) (λb ob u e=>?_) (λb ps e=>?_) (λm hm=>?_) (λb u e=>?_) I.bare
 .obtain⟨_,f1,_,f3,f4,f5⟩:=hf b hb;exact⟨f3,f1,f4,f5⟩
 .rw[ai (pi (ol (ut e) hp))];exact n
 .rw[ai (aQ e hn)];exact e
 .rw[ai (aQ e hn)];exact e
 .exact⟨#[],by rw[ai (aQ e hn),e];simp⟩
 .obtain⟨o,es,ep,ho,r⟩:=hm;exact⟨o,es,ep,k _ o (λz=>(hf _ z).2.1 rfl) ho,r⟩
 .by_cases hb:b=a
  .subst hb;rw[az]at e;cases e;exact new
  .rw[ai hb]at e;refine(I.hok b u e).jR (λc v hc q=>k c v ?_ q) (λc q=>by rw[ai (aQ q hn)];exact q) λc xs q=>by rw[ai (aQ q hn)];exact q
   rcases hc with rfl|hc
   .exact nch _ _ e
   .exact nch _ _ hc
end
abbrev Ho (l:Addr):It:=
 ⟨λi H=>∃ xs x,H l=some (.lst xs)/\xs[i]? =some x,λi H x H'=>∃ T y,H T=none/\x=.ref T/\H'=upd H T (.tup [.int i,y])/\∀ xs,H l=some (.lst xs)->xs[i]? =some y,λi H=>∃ xs,H l=some (.lst xs)/\xs.length<=i⟩
variable {elts:List Expr}
def wR {P:Program}{w:World}{K:W.Frag}{k:Nat}(l e it:Addr)(hei:e≠it):
  Turn P w K (.Tuple elts k pos) (Ho l) [e,it] e (λi h=>(∃ old,IsEnum h e it ((i:Nat):Int) old)/\h.IsListIter it l i) where
 mem:=by simp
 obj:=λi h st b hb=>by
  obtain⟨⟨old,he⟩,hit⟩:=st;rcases nb.mp hb with rfl|hb
  .exact⟨_,he,λv z=>by
    have z':Data.fields _=Data.cell v:=z;cases z'⟩
  .have e':b=it:=by simpa using hb
   subst e';obtain⟨o,e,c,d⟩:=hit;exact⟨o,e,λv z=>by rw[d]at z;cases z⟩
 keep:=λi h h' st k=>by
  obtain⟨⟨old,he⟩,hit⟩:=st;exact⟨⟨old,k e (by simp) _ he⟩,hit.at λo q=>k it (by simp) o q⟩
 item:=by
  intro X hP hw hK hc i Y s U H E I hf st hg;subst hP hw hK;obtain⟨xs,x,hq,hx⟩:=hg;obtain⟨⟨old,he⟩,hit⟩:=st;obtain⟨its,rv,p,hz⟩:=I.list (aU.of hq);obtain⟨u,hu,ru⟩:=rv.get hx;have heN:H e=none:=(hf e (by simp)).1;have hes:e≠s.heap.objs.size:=pi (ut he);obtain⟨oi,hoi,_⟩:=id hit;have his:it≠s.heap.objs.size:=pi (ut hoi);refine wpAny_pyNext_enum_item he hit p.isList (x:=u) (by simpa using hu) hei λh1 heo hit1 ht1 hz1 hk1=>?_
  have I1:Inv X Y U (upd H s.heap.objs.size (.tup [.int i,x])) { s with heap:=h1,toks:=s.toks+1 }:=
   I.qX (ch:=[e,it]) (λb o hb q=>hk1 b o (λz=>hb (by simp[z])) (λz=>hb (by simp[z])) q) hf (re _)
    ⟨fits (pc rfl),[.int i s.toks,u],.cons ⟨_,rfl⟩ (.cons ru .nil),⟨_,ht1,rfl,_,rfl⟩⟩
  refine⟨_,rfl,wpAny_letOwnedTupleGo_enum heo λh2 he2 hs2=>?_⟩;obtain⟨f0,f1,f2,f3,f4,f5⟩:=hf e (by simp);have I2:=I1.turned (h':=h2) (t':=s.toks+1) (it:=e) (λb o hb q=>(hs2.2 b hb).trans q) (by rw[ai hes];exact heN) f1 f3 f4 f5;refine⟨.ref s.heap.objs.size,_,I2,rfl,⟨_,x,I.hok.fresh (re _),rfl,rfl,λys hy=>?_⟩,⟨⟨_,by simpa using he2⟩,hit1.at λo q=>(hs2.2 it hei.symm).trans q⟩,λb hb=>?_⟩
  .rw[hq]at hy;cases hy;exact hx
  .have hb':b≠s.heap.objs.size:=by
    rcases nb.mp hb with rfl|hb
    .exact hes
    .have e':b=it:=by simpa using hb
     subst e';exact his
   rw[ai hb'];exact(hf b hb).1
 done:=by
  intro X hP hw hK hc i Y s U H E I hf st hg;subst hP hw hK;obtain⟨xs,hq,hx⟩:=hg;obtain⟨⟨old,he⟩,hit⟩:=st;obtain⟨its,rv,p,hz⟩:=I.list (aU.of hq);obtain⟨f0,f1,f2,f3,f4,f5⟩:=hf it (by simp);have hl:=rv.length;exact wpAny_pyNext_enum_end (I.ok.hd hc) he hit p.isList (by simp;omega) λh' eb=>⟨rfl,I.turned (t':=s.toks) (λb o hb q=>eb b o hb q) f0 f1 f3 f4 f5⟩
 self:=λ_ _ _ _ _ st h=>by
  obtain⟨⟨old,he⟩,hit⟩:=st;exact wpAny_pyIter_enum he h
def nF:bootBuiltins "enumerate"=some (.type "enumerate"):=by decide+kernel
abbrev Jz (ta:TA):TI:=λU H R=>ta U H λvs H1=>∃ l,vs=[.ref l]/\(∃ xs,H1 l=some (.lst xs))/\R (Ho l) H1
def CI {k:Nat}{a:Expr}{ta:TA}{p pos':Pos}(hg:Gl X "enumerate") (hm:X.mg "enumerate"=none) (ha:PA X [a] ta) (hs:bm [a] X.env=[(false,eval a X.env)]:=by rfl):
  PI X (.Tuple elts k pos') (.Call (.Name "enumerate" p) [a] [] pos) (Jz ta):=by
 intro Y s U H R I h;refine Call_ (dI I hg hm nF (PyProof.Rows.callWith_type1 (aB (ha pos Y s U H _ I h) λus s1 ⟨vs,H1,I1,r1,q1⟩=>?_) hs rfl));obtain⟨l,e,⟨xs,hl⟩,q⟩:=q1;subst e;cases r1 with
 |cons r rr=>
  cases rr;cases r;obtain⟨z,its,n,r,hlen,e⟩:=I1.qT hl;refine call_enumerate_1 e λh' he hit hsz hk=>?_
  refine wpAny_pyIter_enum he ?_;refine⟨s1.heap.objs.size+1,[s1.heap.objs.size+1,s1.heap.objs.size],_,_,H1,rfl,I1.kept (t':=s1.toks) hk,wR l _ _ (Nat.succ_ne_self _),⟨⟨_,he⟩,hit⟩,λb hb=>?_,q⟩;have hb':s1.heap.objs.size<=b:=by
   rcases nb.mp hb with rfl|hb
   .exact Nat.le_succ _
   .have e':b=s1.heap.objs.size:=by simpa using hb
    exact Nat.le_of_eq e'.symm
  exact I1.yu hb' (I1.hok.fresh hb')
section
variable {g:TG}{tb:TS}{D:Ends}{U:St}{H:Hp}{ta:TA}
end
section
variable {X:Cx}
abbrev BB:V->List V->Hp->VK->Prop:=λx vs H Q=>∃ l xs i y,x=.ref l/\vs=[.int i,y]/\H l=some (.lst xs)/\0<=i/\i<=xs.length/\xs.length<bn/\Q .non (upd H l (.lst (xs.take i.toNat++y::xs.drop i.toNat)))
def Vals.take':∀ {xs:List V}{us:List Value}(n:Nat),Vals xs us->Vals (xs.take n) (us.take n)
 |_,_,0,_=>by simpa using Paired.nil
 |_,_,n+1,.nil=>.nil
 |_,_,n+1,.cons r t=>.cons r (Vals.take' n t)
def Vals.drop':∀ {xs:List V}{us:List Value}(n:Nat),Vals xs us->Vals (xs.drop n) (us.drop n)
 |_,_,0,r=>r
 |_,_,n+1,.nil=>.nil
 |_,_,n+1,.cons r t=>Vals.drop' n t
def wQ:Lh X "list.insert" BB:=by
 intro Y s U H x vs v us Q I rx rv h;obtain⟨l,xs,i,y,rfl,rfl,hH,h0,h1,hz,q⟩:=h;cases rx;obtain⟨u,u2,rfl,ru,ru2⟩:=vals2 rv;obtain⟨t,rfl⟩:=ru;obtain⟨z,its,n,r,hl,e⟩:=I.qT hH;have hk:i.toNat<=its.length:=by omega
 have hn:=f7;have hfit:¬ (!Builtin.List.listFitsIndex i)=true:=by
  rw[fitsIndex_both (k:=i) nofun nofun]
  decide
 have hsz:its.toArray.size<=bn:=by rw[ii];omega
 have hmt:=AutoSeq1.list_insert_list_int_val_1 l its.toArray n i t u2 hfit hsz;refine call_meets F.slot_list_insert ⟨_,e,rfl⟩ F.entry_list_insert (F.args_list_insert_3 _ _ _) hmt ⟨e,?_⟩;refine⟨.non,_,I.ER (its':=its.take i.toNat++u2::its.drop i.toNat) hH e ?_ ?_ ?_,rfl,q⟩
 .have ek:(if i<0 then(i+(its.toArray.size:Int)).toNat else min i.toNat its.toArray.size)=i.toNat:=by
   rw[if_neg nofun,ii];exact Nat.min_eq_left hk
  show((its.toArray.extract 0 (if i<0 then(i+(its.toArray.size:Int)).toNat else min i.toNat its.toArray.size)).push u2++its.toArray.extract (if i<0 then(i+(its.toArray.size:Int)).toNat else min i.toNat its.toArray.size))=_;rw[ek];apply Array.ext';simp;exact take_of_length_le (by rw[jp];omega)
 .exact(Vals.take' i.toNat r).append (.cons ru2 (Vals.drop' i.toNat r))
 .rw[ci,length_cons,db,jp]
  omega
end
section
variable {K:W.Frag}{r:V->List V->Hp->VK->Prop}{to:TE}{t:TA}{U:St}{H:Hp}{Q:VK}
end
section
variable {H H1 H2:Hp}{p h c:Addr}{o:HO}{m:Int}
end
section
variable {H H':Hp}{xs ys:List V}{f:Nat->Int×Int}
end
section
variable {X:Cx}{a b c d:Expr}{ta tb tc td:TE}{pos:Pos}
abbrev Dg (r r' r2:R2)(ta tb tc td:TE):TE:=λU H Q=>ta U H λx H1=>tb U H1 λy H2=>r x y H2 λz H3=>rG z H3 λk H3=>
 (if k=true then tc U H3 λw' H4=>r' y w' H4 λz' H5=>rG z' H5 λk' H5=>(if k'=true then td U H5 λw2 H6=>r2 w' w2 H6 Q else Q (.bl false) H5) else Q (.bl false) H3)
def vH {op op' op2:CmpOp}{r r' r2:R2}(ho:cR X (compareOp op) r)(ho':cR X (compareOp op') r')(ho2:cR X (compareOp op2) r2)(ha:PE X a ta)(hb:PE X b tb)(hc:PE X c tc)(hd:PE X d td)
  (hm:lastMarks [op,op',op2] [b,c,d]=false:=by with_unfolding_all rfl):PE X (.Compare a [op,op',op2] [b,c,d] pos) (Dg r r' r2 ta tb tc td):=by
 intro Y s U H Q I h;refine Compare_chain (aB (ha Y s U H _ I h) λv s1 ⟨x,H1,I1,r1,q1⟩=>chain_link (aB (hb Y s1 U H1 _ I1 q1) λu s2 ⟨y,H2,I2,r2',q2⟩=>
  aB (ho Y s2 U H2 x y v u _ I2 r1 r2' q2) λd s3 ⟨z,H3,I3,r3,k,e,q3⟩=>?_)) hm
 subst e;cases r3;refine bi ?_;cases k with
 |false=>exact ite_ff ⟨.bl false,H3,I3,rfl,q3⟩
 |true=>
  refine ite_tt (chain_link (aB (hc Y s3 U H3 _ I3 q3) λw' s4 ⟨z',H4,I4,r4,q4⟩=>aB (ho' Y s4 U H4 y z' u w' _ I4 r2' r4 q4) λd2 s5 ⟨z2,H5,I5,r5,k2,e2,q5⟩=>?_));subst e2;cases r5;refine bi ?_;cases k2 with
  |false=>exact ite_ff ⟨.bl false,H5,I5,rfl,q5⟩
  |true=>exact ite_tt (chain_last (aB (hd Y s5 U H5 _ I5 q5) λw2 s6 ⟨z3,H6,I6,r6,q6⟩=>ho2 Y s6 U H6 z' z3 w' w2 Q I6 r4 r6 q6))
end
section
variable {K:W.Frag}{U:St}{H:Hp}{Q:VK}{ta tb tc td tv:TE}{t:TA}{f m:Str}{D:Ends}{C:Addr}{sp:Sp}{dvs:List V}{E:XK}
end
section
variable {g:TG}{tb:TS}{D:Ends}{U:St}{H:Hp}{ta:TA}
end
section
variable {C:Addr}{H H':Hp}{S D h c:Addr}{rs:List Rec}{r:Rec}
end
section
variable {X:Cx}
end
end L2
namespace L2
end L2
namespace L2
open PySem PySem.Spec PyProof.Rows
section
variable {C:Addr}{H HF:Hp}{S D h c:Addr}{rs:List Rec}{r':Rec}
end
section
variable {X:Cx}
end
structure Ke (K:W.Frag) (C:Addr):Prop where
 ha:W.findIn K (.ref C) "__class__"=some (some (.builtin "object.__class__"))
 hn:W.specialIn K (.builtin "object.__class__") "__get__"=some (some (.builtin "getset_descriptor.__get__"))
 htk:W.takesIn K (.builtin "object.__class__")=some true
 hm:W.mroIn K C (.type "object")=some true
end L2
namespace L2
open PySem PySem.Spec PySem.W PyProof.Rows
abbrev bp (tp:Bool)(h:Heap)(j b:Addr)(k:Nat):Prop:=match tp with
 |true=>h.IsTupleIter j b k
 |false=>h.IsListIter j b k
abbrev bN (tp:Bool)(h:Heap)(b:Addr)(xs:Array Value):Prop:=match tp with
 |true=>h.IsTuple b xs
 |false=>h.IsList b xs
variable {tp:Bool}{h:Heap}{k:Nat}
def bp.to {h':Heap}{j b:Addr}(g:bp tp h j b k)(e:∀ o,h.get? j=some o->h'.get? j=some o):bp tp h' j b k:=by
 cases tp
 .obtain⟨o,e1,r⟩:=(show h.IsListIter j b k from g);exact⟨o,e o e1,r⟩
 .obtain⟨o,e1,r⟩:=(show h.IsTupleIter j b k from g);exact⟨o,e o e1,r⟩
def bN.to {h':Heap}{b:Addr}{xs:Array Value}(g:bN tp h b xs)(e:∀ o,h.get? b=some o->h'.get? b=some o):bN tp h' b xs:=by
 cases tp
 .obtain⟨o,e1,r⟩:=(show h.IsList b xs from g);exact⟨o,e o e1,r⟩
 .obtain⟨o,e1,r⟩:=(show h.IsTuple b xs from g);exact⟨o,e o e1,r⟩
def bp.lt {tp:Bool}{h:Heap}{j b:Addr}{k:Nat}(g:bp tp h j b k):j<h.objs.size:=by
 cases tp
 .obtain⟨o,e1,r⟩:=(show h.IsListIter j b k from g);exact ut e1
 .obtain⟨o,e1,r⟩:=(show h.IsTupleIter j b k from g);exact ut e1
def bN.lt {tp:Bool}{h:Heap}{b:Addr}{xs:Array Value}(g:bN tp h b xs):b<h.objs.size:=by
 cases tp
 .obtain⟨o,e1,r⟩:=(show h.IsList b xs from g);exact ut e1
 .obtain⟨o,e1,r⟩:=(show h.IsTuple b xs from g);exact ut e1
variable {Q:Option Value->Shared->Prop}{c:Addr}{T:Int}{fb:Bool}{oT:Obj}{elts:List Expr}{pos:Pos}
section
variable {prog:Program}{w:World}{A:Around}{E:MC}{s:Shared}
def FY {j b:Addr}{xs:Array Value}{x:Value}{Q:MC}(g:s.heap.IsTupleIter j b k)(t:s.heap.IsTuple b xs)(hx:xs[k]? =some x)
  (q:∀ h',h'.IsTupleIter j b (k+1)->Heap.SameBut j s.heap h'->Q x { s with heap:=h' }):wpAny (model prog w) A (Builtin.SmallTypes.nextOf (.ref j)) Q E s:=by
 obtain⟨o1,e1,c1,d1⟩:=id g;obtain⟨o2,e2,_,n2,d2⟩:=t;unfold Builtin.SmallTypes.nextOf;refine ad (wpAny_callSpecial?_slot (name:=Str.ofString "__next__") g.typeIs F.slot_tuple_iterator_next (wpAny_call_entry F.slot_tuple_iterator_next g.typeIs F.entry_tuple_iterator_next ?_ (F.args_tuple_iterator_next_1 _)));show wpAny _ _ (field (.ref j) 0 >>= _) _ _ s;refine ad (ap e1 d1 (x:=.ref b) rfl ?_);show wpAny _ _ (if(Value.ref b ==Value.none)=true then _ else _) _ _ s;rw[if_neg (show ¬ ((Value.ref b ==Value.none)=true) from Bool.false_ne_true)];show wpAny _ _ (field (.ref j) 1 >>= _) _ _ s;refine ad (ap e1 d1 (x:=.int k 0) rfl ?_);show wpAny _ _ (seqItems? (.ref b) >>= _) _ _ s;refine ad (wpAny_seqItems e2 d2 ?_);simp only[sn,hx];refine ad (wpAny_setField e1 d1 (by simp) (am ⟨x,rfl,am (q _ ?_ (Heap.SameBut.update ..))⟩));refine⟨_,Heap.get?_update_self _ e1 (Obj.isFreed_of_fields (Obj.data_mapFields d1 _)),(Obj.cls_mapFields ..).trans c1,?_⟩;rw[Obj.data_mapFields d1];simp[rawInt]
def Bm {j b:Addr}{xs:Array Value}{Q:MC}(hh:A.handled=none)(g:s.heap.IsTupleIter j b k)(t:s.heap.IsTuple b xs)(hx:xs[k]? =none)
  (q:∀ h' e,Heap.ExtBut j s.heap h'->(∃ o,h'.get? e=some o/\o.cls=.type "StopIteration")->E (.ref e) { s with heap:=h' }):wpAny (model prog w) A (Builtin.SmallTypes.nextOf (.ref j)) Q E s:=by
 obtain⟨o1,e1,c1,d1⟩:=id g;obtain⟨o2,e2,_,n2,d2⟩:=t;unfold Builtin.SmallTypes.nextOf;refine ad (wpAny_callSpecial?_slot (name:=Str.ofString "__next__") g.typeIs F.slot_tuple_iterator_next (wpAny_call_entry F.slot_tuple_iterator_next g.typeIs F.entry_tuple_iterator_next ?_ (F.args_tuple_iterator_next_1 _)));show wpAny _ _ (field (.ref j) 0 >>= _) _ _ s;refine ad (ap e1 d1 (x:=.ref b) rfl ?_);show wpAny _ _ (if(Value.ref b ==Value.none)=true then _ else _) _ _ s;rw[if_neg (show ¬ ((Value.ref b ==Value.none)=true) from Bool.false_ne_true)];show wpAny _ _ (field (.ref j) 1 >>= _) _ _ s;refine ad (ap e1 d1 (x:=.int k 0) rfl ?_);show wpAny _ _ (seqItems? (.ref b) >>= _) _ _ s;refine ad (wpAny_seqItems e2 d2 ?_);simp only[sn,hx];refine ad (wpAny_rule (ad (wpAny_setField e1 d1 (by simp) ?_)));show wpAny _ _ (newExc (.type "StopIteration") [] >>= _) _ _ _;refine ad ?_;simp only[newExc,newTuple];refine ad (wpAny_newObj_type ?_ (by size_fits));refine ad (m:=firstArgMember _ _) (wpAny_of_eq (a:=Value.none) (by first|rfl|(simp only[firstArgMember];rfl)) ?_);refine wpAny_newObj_type ?_ (by size_fits);simp only[raiseNew];refine ad (wpAny_handled ?_);first|rw[show A.in1.handled=none from hh]|rw[hh]
 refine ad (am (wpAny_throw ?_));exact q _ _ (((Heap.SameBut.update ..).extBut.push _).push _) ⟨_,v6 _ rfl,rfl⟩
def fA {j b:Addr}{xs:Array Value}{x:Value}{Q:MC}(g:bp tp s.heap j b k)(t:bN tp s.heap b xs)(hx:xs[k]? =some x)
  (q:∀ h',bp tp h' j b (k+1)->Heap.SameBut j s.heap h'->Q x { s with heap:=h' }):wpAny (model prog w) A (Builtin.SmallTypes.nextOf (.ref j)) Q E s:=by
 cases tp
 .exact wpAny_nextOf_list_item g t hx q
 .exact FY g t hx q
def nX {j b:Addr}{xs:Array Value}{Q:MC}(hh:A.handled=none)(g:bp tp s.heap j b k)(t:bN tp s.heap b xs)(hx:xs[k]? =none)
  (q:∀ h' e,Heap.ExtBut j s.heap h'->(∃ o,h'.get? e=some o/\o.cls=.type "StopIteration")->E (.ref e) { s with heap:=h' }):wpAny (model prog w) A (Builtin.SmallTypes.nextOf (.ref j)) Q E s:=by
 cases tp
 .exact wpAny_nextOf_list_end hh g t hx q
 .exact Bm hh g t hx q
@[reducible]def bW (h:Heap) (z TI TO:Addr) (f0 f1:Value):Prop:=h.get? z=some { cls:=.type "zip",dict:=none,data:=.fields #[f0,f1,.bool false,.ref TI,.ref TO],slots:=#[] }
variable {z TI TO i1 i2 l1 l2:Addr}{k1 k2:Nat}{tp1 tp2:Bool}{xs ys:Array Value}{x y a b f1:Value}
def uc (D:ZipApart z TI TO i1 i2 l1 l2)(hz:bW s.heap z TI TO .none f1)(hI:IsPair s.heap TI (.ref i1) (.ref i2))(hO:IsPair s.heap TO a b)
  (g1:bp tp1 s.heap i1 l1 k1) (g2:bp tp2 s.heap i2 l2 k2) (t1:bN tp1 s.heap l1 xs) (t2:bN tp2 s.heap l2 ys) (hx:xs[k1]? =some x) (hy:ys[k2]? =some y)
  (q:∀ h',bW h' z TI TO (rawInt s.heap.objs.size) (.bool false)->IsPair h' TO x y->bp tp1 h' i1 l1 (k1+1)->bp tp2 h' i2 l2 (k2+1)->IsPair h' s.heap.objs.size x y->h'.objs.size=s.heap.objs.size+1->
   (∀ c o,c≠z->c≠TO->c≠i1->c≠i2->s.heap.get? c=some o->h'.get? c=some o)->Q (some (.ref s.heap.objs.size)) { s with heap:=h' }):wpAny (model prog w) A (pyNext (.ref z)) Q E s:=by
 have hZ:s.TypeIs (.ref z) "zip":=⟨_,hz,rfl⟩;unfold pyNext;refine ad (wpAny_attempt (wpAny_callSpecial?_slot (name:=Str.ofString "__next__") hZ F.slot_zip_next (wpAny_call_entry F.slot_zip_next hZ F.entry_zip_next ?_ (F.args_zip_next_1 _))));show wpAny _ _ (field (.ref z) 2 >>= _) _ _ _;refine ad (ap (x:=.bool false) hz rfl rfl ?_);show wpAny _ _ (field (.ref z) 3 >>= _) _ _ _;refine ad (ap (x:=.ref TI) hz rfl rfl ?_);refine ad (wpAny_seqItems hI rfl ?_);show wpAny _ _ (Builtin.SmallTypes.ownedTupleIsFree (.ref z) >>= _) _ _ _;refine ad ?_;unfold Builtin.SmallTypes.ownedTupleIsFree;refine ad (ap (x:=.none) hz rfl rfl (am ?_));simp only[if_true];refine ad (wpAny_rule ?_);refine ad (ap (x:=.ref TO) hz rfl rfl ?_);refine ad (wpAny_setField_rec hz (by simp) λp1 z1 b1=>?_)
 replace z1:bW p1 z TI TO .ellipsis f1:=z1
 refine ad ?_;simp only[List.zipIdx_cons,List.zipIdx_nil,forIn_cons,forIn_nil];refine ad (ad (wpAny_onRaise ?_));show wpAny _ _ (Builtin.SmallTypes.nextOf (.ref i1) >>= _) _ _ _;refine ad (fA (g1.to λo e=>b1.extBut _ o D.i1z e) (t1.to λo e=>b1.extBut _ o D.l1z e) hx λp2 g1b b2=>am ?_);have hO2:IsPair p2 TO a b:=b2.extBut _ _ D.TOi1 (b1.extBut _ _ D.TOz hO);refine ad (wpAny_seqItems hO2 rfl ?_);refine ad (wpAny_updateSeq_pair hO2 λp3 hO3 b3=>?_)
 replace hO3:IsPair p3 TO x b:=hO3
 refine ad (wpAny_letGo (am ?_));refine ad (ad (wpAny_onRaise ?_));show wpAny _ _ (Builtin.SmallTypes.nextOf (.ref i2) >>= _) _ _ _;refine ad (fA (g2.to λo e=>b3.extBut _ o D.TOi2.symm (b2.extBut _ o D.i12.symm (b1.extBut _ o D.i2z e))) (t2.to λo e=>b3.extBut _ o D.l2TO (b2.extBut _ o D.l2i1 (b1.extBut _ o D.l2z e))) hy λp4 g2b b4=>am ?_);have hO4:IsPair p4 TO x b:=b4.extBut _ _ D.TOi2 hO3;refine ad (wpAny_seqItems hO4 rfl ?_);refine ad (wpAny_updateSeq_pair hO4 λp5 hO5 b5=>?_)
 replace hO5:IsPair p5 TO x y:=hO5
 refine ad (wpAny_letGo (am (am ?_)));refine ad (wpAny_seqItems hO5 rfl ?_);refine ad (wpAny_newTuple ?_);have hsz:p5.objs.size=s.heap.objs.size:=by rw[b5.1,b4.1,b3.1,b2.1,b1.1]
 have z5:bW p5 z TI TO .ellipsis f1:=b5.extBut _ _ D.TOz.symm (b4.extBut _ _ D.i2z.symm (b3.extBut _ _ D.TOz.symm (b2.extBut _ _ D.i1z.symm z1)));have k5:∀ c o,c≠z->c≠TO->c≠i1->c≠i2->s.heap.get? c=some o->p5.get? c=some o:=λc o n1 n2 n3 n4 e=>b5.extBut _ _ n2 (b4.extBut _ _ n4 (b3.extBut _ _ n2 (b2.extBut _ _ n3 (b1.extBut _ _ n1 e))))
 have g15:bp tp1 p5 i1 l1 (k1+1):=g1b.to λo e=>b5.extBut _ o D.TOi1.symm (b4.extBut _ o D.i12 (b3.extBut _ o D.TOi1.symm e))
 have g25:bp tp2 p5 i2 l2 (k2+1):=g2b.to λo e=>b5.extBut _ o D.TOi2.symm e
 have zlt:z<p5.objs.size:=ut z5;show wpAny _ _ (Builtin.SmallTypes.ownedTupleHandOut (.ref z) (.ref p5.objs.size) >>= _) _ _ _;refine ad ?_;unfold Builtin.SmallTypes.ownedTupleHandOut;have z6:bW (p5.push { cls:=.type "tuple",data:=.seq #[x,y] }) z TI TO .ellipsis f1:=ul _ z5;refine ad (wpAny_setField_rec z6 (by simp) λp7 z7 b7=>?_)
 replace z7:bW p7 z TI TO (rawInt p5.objs.size) f1:=z7
 refine wpAny_setField_rec z7 (by simp) λp8 z8 b8=>?_
 replace z8:bW p8 z TI TO (rawInt p5.objs.size) (.bool false):=z8
 have up:∀ c o,c≠z->p5.get? c=some o->p8.get? c=some o:=λc o n1 e=>b8.extBut _ _ n1 (b7.extBut _ _ n1 (ul _ e))
 have hT:IsPair p8 p5.objs.size x y:=b8.extBut _ _ (Nat.ne_of_gt zlt) (b7.extBut _ _ (Nat.ne_of_gt zlt) (v6 _ rfl));have h8:p8.objs.size=p5.objs.size+1:=by rw[b8.1,b7.1,Heap.size_push]
 rw[hsz]at z8 hT h8;refine am ⟨_,rfl,?_⟩;rw[hsz];exact am (q p8 z8 (up _ _ D.TOz hO5) (g15.to λo e=>up _ o D.i1z e) (g25.to λo e=>up _ o D.i2z e) hT h8 λc o n1 n2 n3 n4 e=>up c o n1 (k5 c o n1 n2 n3 n4 e))
def Gn {Q:Fin->Shared->Prop}(hh:A.handled=none)(D:ZipApart z TI TO i1 i2 l1 l2)(hz:bW s.heap z TI TO .none f1)(hI:IsPair s.heap TI (.ref i1) (.ref i2))(hO:IsPair s.heap TO a b)
  (g1:bp tp1 s.heap i1 l1 k1) (g2:bp tp2 s.heap i2 l2 k2) (t1:bN tp1 s.heap l1 xs) (t2:bN tp2 s.heap l2 ys) (hx:xs[k1]? =none\/ys[k2]? =none)
  (q:∀ h' e,(∀ c o,c≠z->c≠TO->c≠i1->c≠i2->s.heap.get? c=some o->h'.get? c=some o)->(∃ o,h'.get? e=some o/\o.cls=.type "StopIteration")->E (.ref e) { s with heap:=h' }):
  wpAny (model prog w) A (Builtin.«zip.__next__» ⟨[.ref z],[]⟩) Q E s:=by
 show wpAny _ _ (field (.ref z) 2 >>= _) _ _ _;refine ad (ap (x:=.bool false) hz rfl rfl ?_);show wpAny _ _ (field (.ref z) 3 >>= _) _ _ _;refine ad (ap (x:=.ref TI) hz rfl rfl ?_);refine ad (wpAny_seqItems hI rfl ?_);show wpAny _ _ (Builtin.SmallTypes.ownedTupleIsFree (.ref z) >>= _) _ _ _;refine ad ?_;unfold Builtin.SmallTypes.ownedTupleIsFree;refine ad (ap (x:=.none) hz rfl rfl (am ?_));simp only[if_true];refine ad (wpAny_rule ?_);refine ad (ap (x:=.ref TO) hz rfl rfl ?_);refine ad (wpAny_setField_rec hz (by simp) λp1 z1 b1=>?_)
 replace z1:bW p1 z TI TO .ellipsis f1:=z1
 refine ad ?_;simp only[List.zipIdx_cons,List.zipIdx_nil,forIn_cons,forIn_nil];refine ad (ad (wpAny_onRaise ?_));show wpAny _ _ (Builtin.SmallTypes.nextOf (.ref i1) >>= _) _ _ _;cases e1:xs[k1]? with
 |none=>
  refine ad (nX hh (g1.to λo e=>b1.extBut _ o D.i1z e) (t1.to λo e=>b1.extBut _ o D.l1z e) e1 λp2 e b2 he=>?_);obtain⟨oe,ho,hc⟩:=he;have z2:bW p2 z TI TO .ellipsis f1:=b2 _ _ D.i1z.symm z1;have ne:e≠z:=λn=>by subst n;rw[z2]at ho;cases ho;simp at hc
  exact wpAny_setField_rec z2 (by simp) λp3 _ b3=>q p3 e (λc o n1 _ n3 _ v=>b3.extBut _ _ n1 (b2 _ _ n3 (b1.extBut _ _ n1 v))) ⟨oe,b3.extBut _ _ ne ho,hc⟩
 |some x=>
  have e2:ys[k2]? =none:=by rcases hx with h|h;(rw[e1]at h;cases h);exact h
  refine ad (fA (g1.to λo e=>b1.extBut _ o D.i1z e) (t1.to λo e=>b1.extBut _ o D.l1z e) e1 λp2 g1b b2=>am ?_);have hO2:IsPair p2 TO a b:=b2.extBut _ _ D.TOi1 (b1.extBut _ _ D.TOz hO);refine ad (wpAny_seqItems hO2 rfl ?_);refine ad (wpAny_updateSeq_pair hO2 λp3 hO3 b3=>?_);refine ad (wpAny_letGo (am ?_));refine ad (ad (wpAny_onRaise ?_));show wpAny _ _ (Builtin.SmallTypes.nextOf (.ref i2) >>= _) _ _ _;refine ad (nX hh (g2.to λo e=>b3.extBut _ o D.TOi2.symm (b2.extBut _ o D.i12.symm (b1.extBut _ o D.i2z e))) (t2.to λo e=>b3.extBut _ o D.l2TO (b2.extBut _ o D.l2i1 (b1.extBut _ o D.l2z e))) e2 λp4 e b4 he=>?_);obtain⟨oe,ho,hc⟩:=he;have z4:bW p4 z TI TO .ellipsis f1:=b4 _ _ D.i2z.symm (b3.extBut _ _ D.TOz.symm (b2.extBut _ _ D.i1z.symm z1));have ne:e≠z:=λn=>by subst n;rw[z4]at ho;cases ho;simp at hc
  exact wpAny_setField_rec z4 (by simp) λp5 _ b5=>q p5 e (λc o n1 n2 n3 n4 v=>b5.extBut _ _ n1 (b4 _ _ n4 (b3.extBut _ _ n2 (b2.extBut _ _ n3 (b1.extBut _ _ n1 v))))) ⟨oe,b5.extBut _ _ ne ho,hc⟩
def qM {Q:Option Obj->Shared->Prop}(h:Q (s.heap.get? c) s):wpAny (model prog w) A (loadIfAlive c) Q E s:=λ_ _ _=>h
variable {t:Tok}
def qt {Q:Bool->Shared->Prop}(hz:bW s.heap z TI TO (.int T t) (.bool fb))(hT:s.heap.get? T.toNat=some oT)(q:∀ h',bW h' z TI TO (.int T t) (.bool true)->Heap.SameBut z s.heap h'->Q false { s with heap:=h' }):
  wpAny (model prog w) A (Builtin.SmallTypes.ownedTupleIsFree (.ref z)) Q E s:=by
 unfold Builtin.SmallTypes.ownedTupleIsFree;refine ad (ap (x:=.int T t) hz rfl rfl ?_);refine ad (qM ?_);rw[hT];refine ad (ap (x:=.bool fb) hz rfl rfl ?_);cases fb
 .refine ad (wpAny_setField_rec hz (by simp) λp1 z1 b1=>am ?_);exact q p1 z1 b1
 .exact ad (am (am (q s.heap hz (Heap.SameBut.refl ..))))
def B3 (D:ZipApart z TI TO i1 i2 l1 l2)(hz:bW s.heap z TI TO (.int T t) (.bool fb))(hT:s.heap.get? T.toNat=some oT)(hI:IsPair s.heap TI (.ref i1) (.ref i2))
  (g1:bp tp1 s.heap i1 l1 k1) (g2:bp tp2 s.heap i2 l2 k2) (t1:bN tp1 s.heap l1 xs) (t2:bN tp2 s.heap l2 ys) (hx:xs[k1]? =some x) (hy:ys[k2]? =some y)
  (q:∀ h',bW h' z TI TO (.int T t) (.bool true)->bp tp1 h' i1 l1 (k1+1)->bp tp2 h' i2 l2 (k2+1)->IsPair h' s.heap.objs.size x y->h'.objs.size=s.heap.objs.size+1->
   (∀ c o,c≠z->c≠i1->c≠i2->s.heap.get? c=some o->h'.get? c=some o)->Q (some (.ref s.heap.objs.size)) { s with heap:=h' }):wpAny (model prog w) A (pyNext (.ref z)) Q E s:=by
 have hZ:s.TypeIs (.ref z) "zip":=⟨_,hz,rfl⟩;unfold pyNext;refine ad (wpAny_attempt (wpAny_callSpecial?_slot (name:=Str.ofString "__next__") hZ F.slot_zip_next (wpAny_call_entry F.slot_zip_next hZ F.entry_zip_next ?_ (F.args_zip_next_1 _))));show wpAny _ _ (field (.ref z) 2 >>= _) _ _ _;refine ad (ap (x:=.bool false) hz rfl rfl ?_);show wpAny _ _ (field (.ref z) 3 >>= _) _ _ _;refine ad (ap (x:=.ref TI) hz rfl rfl ?_);refine ad (wpAny_seqItems hI rfl ?_);show wpAny _ _ (Builtin.SmallTypes.ownedTupleIsFree (.ref z) >>= _) _ _ _;refine ad (qt hz hT λp1 z1 b1=>?_);simp only[Bool.false_eq_true,if_false];simp only[List.forIn_toArray,forIn_cons,forIn_nil];refine ad (ad (ad (bd ?_)));show wpAny _ _ (Builtin.SmallTypes.nextOf (.ref i1) >>= _) _ _ _;refine ad (fA (g1.to λo e=>b1.extBut _ o D.i1z e) (t1.to λo e=>b1.extBut _ o D.l1z e) hx λp2 g1b b2=>am (am ?_));dsimp only;refine ad (ad (bd ?_));show wpAny _ _ (Builtin.SmallTypes.nextOf (.ref i2) >>= _) _ _ _;refine ad (fA (g2.to λo e=>b2.extBut _ o D.i12.symm (b1.extBut _ o D.i2z e)) (t2.to λo e=>b2.extBut _ o D.l2i1 (b1.extBut _ o D.l2z e)) hy λp3 g2b b3=>am (am (am ?_)));dsimp only;refine ad (wpAny_newTuple ?_ (hsz:=fits (pc rfl)));have hsz:p3.objs.size=s.heap.objs.size:=by rw[b3.1,b2.1,b1.1]
 refine am ⟨_,rfl,?_⟩;have z3:bW p3 z TI TO (.int T t) (.bool true):=b3.extBut _ _ D.i2z.symm (b2.extBut _ _ D.i1z.symm z1);rw[hsz];refine am (q _ (ul _ z3) (g1b.to λo e=>ul _ (b3.extBut _ o D.i12 e)) (g2b.to λo e=>ul _ e) (by rw[<-hsz];exact v6 _ rfl) (by rw[Heap.size_push,hsz]) λc o n1 n2 n3 e=>?_);exact ul _ (b3.extBut _ _ n3 (b2.extBut _ _ n2 (b1.extBut _ _ n1 e)))
def yc {Q:Fin->Shared->Prop}(hh:A.handled=none)(D:ZipApart z TI TO i1 i2 l1 l2)(hz:bW s.heap z TI TO (.int T t) (.bool fb))(hT:s.heap.get? T.toNat=some oT)(hI:IsPair s.heap TI (.ref i1) (.ref i2))
  (g1:bp tp1 s.heap i1 l1 k1) (g2:bp tp2 s.heap i2 l2 k2) (t1:bN tp1 s.heap l1 xs) (t2:bN tp2 s.heap l2 ys) (hx:xs[k1]? =none\/ys[k2]? =none)
  (q:∀ h' e,(∀ c o,c≠z->c≠i1->c≠i2->s.heap.get? c=some o->h'.get? c=some o)->(∃ o,h'.get? e=some o/\o.cls=.type "StopIteration")->E (.ref e) { s with heap:=h' }):
  wpAny (model prog w) A (Builtin.«zip.__next__» ⟨[.ref z],[]⟩) Q E s:=by
 show wpAny _ _ (field (.ref z) 2 >>= _) _ _ _;refine ad (ap (x:=.bool false) hz rfl rfl ?_);show wpAny _ _ (field (.ref z) 3 >>= _) _ _ _;refine ad (ap (x:=.ref TI) hz rfl rfl ?_);refine ad (wpAny_seqItems hI rfl ?_);show wpAny _ _ (Builtin.SmallTypes.ownedTupleIsFree (.ref z) >>= _) _ _ _;refine ad (qt hz hT λp1 z1 b1=>?_);simp only[Bool.false_eq_true,if_false];simp only[List.forIn_toArray,forIn_cons,forIn_nil];refine ad (ad (ad (bd ?_)));show wpAny _ _ (Builtin.SmallTypes.nextOf (.ref i1) >>= _) _ _ _;cases e1:xs[k1]? with
 |none=>exact ad (nX hh (g1.to λo e=>b1.extBut _ o D.i1z e) (t1.to λo e=>b1.extBut _ o D.l1z e) e1 λp2 e b2 he=>q p2 e (λc o n1 n2 n3 v=>b2 _ _ n2 (b1.extBut _ _ n1 v)) he)
 |some x=>
  have e2:ys[k2]? =none:=by rcases hx with h|h;(rw[e1]at h;cases h);exact h
  refine ad (fA (g1.to λo e=>b1.extBut _ o D.i1z e) (t1.to λo e=>b1.extBut _ o D.l1z e) e1 λp2 g1b b2=>am (am ?_));dsimp only;refine ad (ad (bd ?_));show wpAny _ _ (Builtin.SmallTypes.nextOf (.ref i2) >>= _) _ _ _;exact ad (nX hh (g2.to λo e=>b2.extBut _ o D.i12.symm (b1.extBut _ o D.i2z e)) (t2.to λo e=>b2.extBut _ o D.l2i1 (b1.extBut _ o D.l2z e)) e2 λp4 e b4 he=>q p4 e (λc o n1 n2 n3 v=>b4 _ _ n3 (b2.extBut _ _ n2 (b1.extBut _ _ n1 v))) he)
def zv (hh:A.handled=none)(D:ZipApart z TI TO i1 i2 l1 l2)(hz:bW s.heap z TI TO .none f1)(hI:IsPair s.heap TI (.ref i1) (.ref i2))(hO:IsPair s.heap TO a b)
  (g1:bp tp1 s.heap i1 l1 k1) (g2:bp tp2 s.heap i2 l2 k2) (t1:bN tp1 s.heap l1 xs) (t2:bN tp2 s.heap l2 ys) (hx:xs[k1]? =none\/ys[k2]? =none)
  (q:∀ h',(∀ c o,c≠z->c≠TO->c≠i1->c≠i2->s.heap.get? c=some o->h'.get? c=some o)->Q none { s with heap:=h' }):wpAny (model prog w) A (pyNext (.ref z)) Q E s:=by
 have hT:s.TypeIs (.ref z) "zip":=⟨_,hz,rfl⟩;unfold pyNext;refine ad (wpAny_attempt (wpAny_callSpecial?_slot (name:=Str.ofString "__next__") hT F.slot_zip_next (wpAny_call_entry F.slot_zip_next hT F.entry_zip_next (Gn hh D hz hI hO g1 g2 t1 t2 hx λh' e k ⟨o,ho,hc⟩=>?_) (F.args_zip_next_1 _))));exact ad (wpAny_isInstance (T:="StopIteration") (b:=true) ⟨o,ho,hc⟩ isSubtype_stop (am (q _ k)))
def yC (hh:A.handled=none)(D:ZipApart z TI TO i1 i2 l1 l2)(hz:bW s.heap z TI TO (.int T t) (.bool fb))(hT:s.heap.get? T.toNat=some oT)(hI:IsPair s.heap TI (.ref i1) (.ref i2))
  (g1:bp tp1 s.heap i1 l1 k1) (g2:bp tp2 s.heap i2 l2 k2) (t1:bN tp1 s.heap l1 xs) (t2:bN tp2 s.heap l2 ys) (hx:xs[k1]? =none\/ys[k2]? =none)
  (q:∀ h',(∀ c o,c≠z->c≠i1->c≠i2->s.heap.get? c=some o->h'.get? c=some o)->Q none { s with heap:=h' }):wpAny (model prog w) A (pyNext (.ref z)) Q E s:=by
 have hT':s.TypeIs (.ref z) "zip":=⟨_,hz,rfl⟩;unfold pyNext;refine ad (wpAny_attempt (wpAny_callSpecial?_slot (name:=Str.ofString "__next__") hT' F.slot_zip_next (wpAny_call_entry F.slot_zip_next hT' F.entry_zip_next (yc hh D hz hT hI g1 g2 t1 t2 hx λh' e k ⟨o,ho,hc⟩=>?_) (F.args_zip_next_1 _))));exact ad (wpAny_isInstance (T:="StopIteration") (b:=true) ⟨o,ho,hc⟩ isSubtype_stop (am (q _ k)))
abbrev zL (tp:Bool)(c:Addr):Obj:=match tp with
 |true=>{ cls:=.type "tuple_iterator",data:=.fields #[.ref c,.int 0 0] }
 |false=>{ cls:=.type "list_iterator",data:=.fields #[.ref c,.int 0 0] }
def rj {vs:Array Value}{Q:MC}(t:bN tp s.heap c vs)(q:Q (.ref s.heap.objs.size) { s with heap:=s.heap.push (zL tp c) }):wpAny (model prog w) A (pyIter (.ref c)) Q E s:=by
 cases tp
 .exact wpAny_pyIter_list t q
 .exact wpAny_pyIter_tuple t q
@[reducible]def G4 (a:Array Value):Obj:={ cls:=.type "tuple",data:=.seq a }
@[reducible]def En (m n:Addr):Obj:={ cls:=.type "zip",data:=.fields #[.none,.bool false,.bool false,.ref m,.ref n] }
def IU {l:Addr}:(zL tp l).isFreed=false:=by cases tp<;>rfl
def Iw {n:Nat}(o:Obj)(hn:h.objs.size=n)(ho:o.isFreed=false:=by first|rfl|exact IU):∃ h',h.push o=h'/\h'.get? n=some o/\h'.objs.size=n+1/\∀ c o',h.get? c=some o'->h'.get? c=some o':=
 ⟨_,rfl,hn▸v6 _ ho,by rw[Heap.size_push,hn],λ_ _ e=>ul _ e⟩
def LB {i l:Addr}(e:h.get? i=some (zL tp l)):bp tp h i l 0:=by
 cases tp
 .exact⟨_,e,rfl,rfl⟩
 .exact⟨_,e,rfl,rfl⟩
noncomputable abbrev Dn (h:Heap)(tp1 tp2:Bool)(l1 l2:Addr):Heap:=((((h.push (zL tp1 l1)).push (zL tp2 l2)).push (G4 #[.ref h.objs.size,.ref (h.objs.size+1)])).push (G4 #[.none,.none])).push (En (h.objs.size+2) (h.objs.size+3))
def BI (tp1 tp2:Bool)(l1 l2:Addr)(xs ys:Array Value):Meets (Builtin.«zip.__new__» ⟨[.type "zip",.ref l1,.ref l2],[]⟩)
  (λ_ R s=>bN tp1 s.heap l1 xs/\bN tp2 s.heap l2 ys/\R (.ok (.ret (.ref (s.heap.objs.size+4)))) { s with heap:=Dn s.heap tp1 tp2 l1 l2 }):=.of_wp λprog w A R s h=>by
 obtain⟨hp,g,d,tk,os⟩:=s;obtain⟨t1,t2,q⟩:=h;have hsub:=sub_zip;have t2':bN tp2 (hp.push (zL tp1 l1)) l2 ys:=t2.to λo e=>ul _ e
 wp_walk using rj (s:=⟨hp,g,d,tk,os⟩) t1,rj (s:=⟨hp.push (zL tp1 l1),g,d,tk,os⟩) t2'
 refine⟨_,rfl,?_⟩;simp only[Heap.size_push,Nat.add_assoc]at q⊢;exact q
def qO {Q:MC}(t1:bN tp1 s.heap l1 xs)(t2:bN tp2 s.heap l2 ys)
  (q:∀ h',bW h' (s.heap.objs.size+4) (s.heap.objs.size+2) (s.heap.objs.size+3) .none (.bool false)->IsPair h' (s.heap.objs.size+2) (.ref s.heap.objs.size) (.ref (s.heap.objs.size+1))->
   IsPair h' (s.heap.objs.size+3) .none .none->bp tp1 h' s.heap.objs.size l1 0->bp tp2 h' (s.heap.objs.size+1) l2 0->h'.objs.size=s.heap.objs.size+5->
   (∀ c o,s.heap.get? c=some o->h'.get? c=some o)->Q (.ref (s.heap.objs.size+4)) { s with heap:=h' }):
  wpAny (model prog w) A (call (.type "zip") [.ref l1,.ref l2]) Q E s:=by
 refine callType_new F.called_zip (by decide) (F.typeCall_zip_2 _ _) (F.newCall_zip_2 _ _) (λobj=>F.args_object_init_3 obj _ _) F.entry_zip_new (BI tp1 tp2 l1 l2 xs ys) ⟨t1,t2,?_⟩;generalize hn:s.heap.objs.size=n at q⊢;have hz:Dn s.heap tp1 tp2 l1 l2=((((s.heap.push (zL tp1 l1)).push (zL tp2 l2)).push (G4 #[.ref n,.ref (n+1)])).push (G4 #[.none,.none])).push (En (n+2) (n+3)):=by rw[<-hn]
 obtain⟨_,a1,e0,z0,k0⟩:=Iw (zL tp1 l1) hn;obtain⟨_,a2,e1,z1,k1⟩:=Iw (zL tp2 l2) z0;obtain⟨_,a3,e2,z2,k2⟩:=Iw (G4 #[.ref n,.ref (n+1)]) z1;obtain⟨_,a4,e3,z3,k3⟩:=Iw (G4 #[.none,.none]) z2;obtain⟨_,a5,e4,z4,k4⟩:=Iw (En (n+2) (n+3)) z3;rw[hz,a1,a2,a3,a4,a5];exact⟨⟨_,e4,rfl⟩,q _ e4 (k4 _ _ (k3 _ _ e2)) (k4 _ _ e3) ((LB e0).to λo e=>k4 _ _ (k3 _ _ (k2 _ _ (k1 _ _ e)))) ((LB e1).to λo e=>k4 _ _ (k3 _ _ (k2 _ _ e))) z4 λc o e=>k4 _ _ (k3 _ _ (k2 _ _ (k1 _ _ (k0 _ _ e))))⟩
def zy {n:Addr}(a1:l1<n)(a2:l2<n):ZipApart (n+4) (n+2) (n+3) n (n+1) l1 l2:=by
 constructor<;>(intro e;have e':=(show @Eq Nat _ _ from e);have b1:=(show @LT.lt Nat _ l1 n from a1);have b2:=(show @LT.lt Nat _ l2 n from a2);omega)
def vm {m:Nat}{T:Addr}{Q:MB}(hz:bW s.heap z TI TO (rawInt T) f1)(q:∀ h',bW h' z TI TO .none f1->Heap.SameBut z s.heap h'->Q () { s with heap:=h' }):
  wpAny (model prog w) A (letOwnedTupleGo (.Tuple elts m pos) (.ref z) (.ref T)) Q E s:=by
 unfold letOwnedTupleGo;refine ad (wpAny_load hz ?_);show wpAny _ _ (if(["enumerate","zip","dict_itemiterator","dict_reverseitemiterator","odict_iterator","itertools.zip_longest","itertools.pairwise"].contains "zip"&&(#[rawInt T,f1,.bool false,.ref TI,.ref TO]:Array Value)[0]? ==some (rawInt T))=true then _ else _) Q E s;rw[if_pos (by simp)];exact ad (wpAny_rule (wpAny_setField_rec hz (by simp) λh' z' b'=>q h' z' b'))
def la {f0:Value}{Q:MC}(hz:bW s.heap z TI TO f0 f1)(h:Q (.ref z) s):wpAny (model prog w) A (pyIter (.ref z)) Q E s:=by
 have hT:s.TypeIs (.ref z) "zip":=⟨_,hz,rfl⟩;refine wpAny_pyIter_slot hT F.slot_zip_iter (wpAny_call_entry F.slot_zip_iter hT F.entry_zip_iter ?_ (F.args_zip_iter_1 _));show wpAny _ _ (ret (.ref z)) _ _ s;exact am ⟨_,rfl,"zip",_,hT,F.slot_zip_next.lookup,h⟩
end
variable {X:Cx}{Y:MD}{U:St}{H:Hp}{s:Shared}
def Inv.CS {h':Heap}{t':Nat}{ch:List Addr}(I:Inv X Y U H s)(k:∀ b u,b ∉ ch->s.heap.get? b=some u->h'.get? b=some u) (hf:∀ b ∈ ch,iY X Y H b):Inv X Y U H { s with heap:=h',toks:=t' }:=by
 have nch:∀ b u,H b=some u->b ∉ ch:=λb u e z=>by rw[(hf b z).1]at e;cases e
 refine I.step (g':=s.gens) (d':=s.drawn) (ch:=ch) (λb hb=>?_) (λb o _ _ hc e _=>k b o hc e) (λb o _ _ hc e _=>⟨o.slots,k b o hc e⟩) (λ_ _ _ _ n=>n)
  (λb o hc e=>⟨o,k b o hc e⟩) (λ_ _ e=>e) (λ_ _ _ e=>e) (λb ps e=>⟨#[],by rw[e];simp⟩) (λm hm=>?_) (λb u e=>?_) I.bare
 .obtain⟨_,f1,_,f3,f4,f5⟩:=hf b hb;exact⟨f3,f1,f4,f5⟩
 .obtain⟨o,es,ep,ho,r⟩:=hm;exact⟨o,es,ep,k _ o (λz=>(hf _ z).2.1 rfl) ho,r⟩
 .refine(I.hok b u e).jR (λc v hc q=>k c v ?_ q) (λ_ q=>q) λ_ _ q=>q
  rcases hc with rfl|hc
  .exact nch _ _ e
  .exact nch _ _ hc
abbrev Sq (K:W.Frag)(tp:Bool)(H:Hp)(c:Addr)(xs:List V):Prop:=match tp with
 |true=>bc K H c xs
 |false=>aU K H c xs
def Inv.sq {xs:List V}(I:Inv X Y U H s)(h:Sq X.K tp H c xs):∃ its:List Value,Vals xs its/\bN tp s.heap c its.toArray:=by
 cases tp
 .obtain⟨its,r,p,_⟩:=I.list h;exact⟨its,r,p.isList⟩
 .obtain⟨its,r,p,_⟩:=I.tuple h;exact⟨its,r,p⟩
def Inv.Ag {xs ys:List V}(I:Inv X Y U H s)(h:Sq X.K tp H c xs)(h':Sq X.K tp H c ys):xs=ys:=by
 cases tp
 .exact I.k6 h h'
 .exact I.iP h h'
abbrev GZ (K:W.Frag)(tp1:Bool)(l1:Addr)(tp2:Bool)(l2:Addr):It:=
 ⟨λi H=>∃ xs ys x y,Sq K tp1 H l1 xs/\Sq K tp2 H l2 ys/\xs[i]? =some x/\ys[i]? =some y,
  λi H v H'=>∃ T x y,H T=none/\v=.ref T/\H'=upd H T (.tup [x,y])/\(∀ xs,Sq K tp1 H l1 xs->xs[i]? =some x)/\∀ ys,Sq K tp2 H l2 ys->ys[i]? =some y,
  λi H=>∃ xs ys,Sq K tp1 H l1 xs/\Sq K tp2 H l2 ys/\(xs.length<=i\/ys.length<=i)⟩
def zW {P:Program}{w:World}{K:W.Frag}{tp1 tp2:Bool}{z TI TO i1 i2 l1 l2:Addr}(D:ZipApart z TI TO i1 i2 l1 l2):
  Turn P w K (.Tuple elts k pos) (GZ K tp1 l1 tp2 l2) [z,TI,TO,i1,i2] z (λi h=>(∃ f1,bW h z TI TO .none f1)/\IsPair h TI (.ref i1) (.ref i2)/\(∃ a b,IsPair h TO a b)/\bp tp1 h i1 l1 i/\bp tp2 h i2 l2 i) where
 mem:=by simp
 obj:=λi h st b hb=>by
  obtain⟨⟨f1,hz⟩,hI,⟨a,b',hO⟩,g1,g2⟩:=st;have it:∀ {tp:Bool}{j c:Addr}{k:Nat},bp tp h j c k->∃ o,h.get? j=some o/\∀ v,o.data≠.cell v:=λ{tp j c k} g=>by
   cases tp
   .obtain⟨o,e,_,d⟩:=(show h.IsListIter j c k from g);exact⟨o,e,λv z=>by rw[d]at z;cases z⟩
   .obtain⟨o,e,_,d⟩:=(show h.IsTupleIter j c k from g);exact⟨o,e,λv z=>by rw[d]at z;cases z⟩
  simp only[nb,not_mem_nil,or_false]at hb;rcases hb with rfl|rfl|rfl|rfl|rfl
  .exact⟨_,hz,λv e=>by cases(show Data.fields _=Data.cell v from e)⟩
  .exact⟨_,hI,λv e=>by cases(show Data.seq _ _=Data.cell v from e)⟩
  .exact⟨_,hO,λv e=>by cases(show Data.seq _ _=Data.cell v from e)⟩
  .exact it g1
  .exact it g2
 keep:=λi h h' st k=>by
  obtain⟨⟨f1,hz⟩,hI,⟨a,b',hO⟩,g1,g2⟩:=st;exact⟨⟨f1,k z (by simp) _ hz⟩,k TI (by simp) _ hI,⟨a,b',k TO (by simp) _ hO⟩,g1.to λo e=>k i1 (by simp) o e,g2.to λo e=>k i2 (by simp) o e⟩
 item:=by
  intro X hP hw hK hc i Y s U H E I hf st hg;subst hP hw hK;obtain⟨xs,ys,x,y,hq1,hq2,hx,hy⟩:=hg;obtain⟨⟨f1,hz⟩,hI,⟨a,b,hO⟩,g1,g2⟩:=st;obtain⟨is1,r1,t1⟩:=I.sq hq1;obtain⟨is2,r2,t2⟩:=I.sq hq2;obtain⟨u,hu,ru⟩:=r1.get hx;obtain⟨v,hv,rv⟩:=r2.get hy;have n0:∀ {c o},s.heap.get? c=some o->c≠s.heap.objs.size:=λe=>pi (ut e)
  refine uc D hz hI hO g1 g2 t1 t2 (x:=u) (y:=v) (by simpa using hu) (by simpa using hv) λh1 z1 o1 j1 j2 hT hs1 k1=>?_
  have I1:Inv X Y U (upd H s.heap.objs.size (.tup [x,y])) { s with heap:=h1,toks:=s.toks }:=
   I.qX (ch:=[z,TI,TO,i1,i2]) (λb o hb q=>k1 b o (λe=>hb (by simp[e])) (λe=>hb (by simp[e])) (λe=>hb (by simp[e])) (λe=>hb (by simp[e])) q) hf (re _)
    ⟨fits (pc rfl),[u,v],.cons ru (.cons rv .nil),⟨_,hT,rfl,_,rfl⟩⟩
  refine⟨_,rfl,vm z1 λh2 z2 b2=>?_⟩;obtain⟨f0,f1',f2,f3,f4,f5⟩:=hf z (by simp);have I2:=I1.turned (h':=h2) (t':=s.toks) (it:=z) (λb o hb q=>(b2.2 b hb).trans q) (by rw[ai (n0 hz)];exact f0) f1' f3 f4 f5;refine⟨.ref s.heap.objs.size,_,I2,rfl,⟨_,x,y,I.hok.fresh (re _),rfl,rfl,λzs hz'=>?_,λzs hz'=>?_⟩,⟨⟨_,z2⟩,?_,⟨_,_,b2.extBut _ _ D.TOz o1⟩,j1.to λo e=>b2.extBut _ o D.i1z e,j2.to λo e=>b2.extBut _ o D.i2z e⟩,λb hb=>?_⟩
  .rw[I.Ag hz' hq1];exact hx
  .rw[I.Ag hz' hq2];exact hy
  .exact b2.extBut _ _ D.TIz (k1 _ _ D.TIz D.TITO D.TIi1 D.TIi2 hI)
  .have hb':b≠s.heap.objs.size:=by
    simp only[nb,not_mem_nil,or_false]at hb;rcases hb with rfl|rfl|rfl|rfl|rfl
    .exact n0 hz
    .exact n0 hI
    .exact n0 hO
    .exact pi g1.lt
    .exact pi g2.lt
   rw[ai hb'];exact(hf b hb).1
 done:=by
  intro X hP hw hK hc i Y s U H E I hf st hg;subst hP hw hK;obtain⟨xs,ys,hq1,hq2,hx⟩:=hg;obtain⟨⟨f1,hz⟩,hI,⟨a,b,hO⟩,g1,g2⟩:=st;obtain⟨is1,r1,t1⟩:=I.sq hq1;obtain⟨is2,r2,t2⟩:=I.sq hq2;have e1:=r1.length;have e2:=r2.length;refine zv (I.ok.hd hc) D hz hI hO g1 g2 t1 t2 (by simp;omega) λh' k'=>⟨rfl,?_⟩
  exact I.CS (t':=s.toks) (ch:=[z,TI,TO,i1,i2]) (λb o hb q=>k' b o (λe=>hb (by simp[e])) (λe=>hb (by simp[e])) (λe=>hb (by simp[e])) (λe=>hb (by simp[e])) q) hf
 self:=λ_ _ _ _ _ st h=>by
  obtain⟨⟨f1,hz⟩,_⟩:=st;exact la hz h
def yM:bootBuiltins "zip"=some (.type "zip"):=by decide+kernel
abbrev Jj (K:W.Frag)(v u:V)(H:Hp)(R:It->Hp->Prop):Prop:=∃ tp1 l1 tp2 l2,v=.ref l1/\u=.ref l2/\(∃ xs,Sq K tp1 H l1 xs)/\(∃ ys,Sq K tp2 H l2 ys)/\R (GZ K tp1 l1 tp2 l2) H
abbrev KO (K:W.Frag)(ta:TA):TI:=λU H R=>ta U H λvs H1=>∃ v u,vs=[v,u]/\Jj K v u H1 R
variable {ta:TA}{p:Pos}
def Fw {a b:Expr}{pos':Pos}(hg:Gl X "zip") (hm:X.mg "zip"=none) (ha:PA X [a,b] ta) (hs:bm [a,b] X.env=(false,eval a X.env)::bm [b] X.env:=by rfl) (hpl:(backTo pos (bm [b] X.env)).any (·.1)=false:=by rfl):
  PI X (.Tuple elts k pos') (.Call (.Name "zip" p) [a,b] [] pos) (KO X.K ta):=by
 intro Y s U H R I h;refine Call_ (dI I hg hm yM (PyProof.Rows.callWith_type1 (aB (ha pos Y s U H _ I h) λus s1 ⟨vs,H1,I1,r1,q1⟩=>?_) hs hpl));obtain⟨v,u,e,tp1,l1,tp2,l2,e1,e2,⟨xs,q1⟩,⟨ys,q2⟩,q⟩:=q1;subst e e1 e2;cases r1 with
 |cons r rr=>
  cases rr with
  |cons r' rr'=>
   cases rr';cases r;cases r';obtain⟨is1,s1',t1⟩:=I1.sq q1;obtain⟨is2,s2',t2⟩:=I1.sq q2;refine qO t1 t2 λh' hz hI hO g1 g2 hsz hk=>?_
   refine la hz ?_;refine⟨s1.heap.objs.size+4,[s1.heap.objs.size+4,s1.heap.objs.size+2,s1.heap.objs.size+3,s1.heap.objs.size,s1.heap.objs.size+1],_,_,H1,rfl,I1.kept (t':=s1.toks) hk,zW (zy t1.lt t2.lt),⟨⟨_,hz⟩,hI,⟨_,_,hO⟩,g1,g2⟩,λb hb=>?_,q⟩;have hb':s1.heap.objs.size<=b:=by
    simp only[nb,not_mem_nil,or_false]at hb;rcases hb with rfl|rfl|rfl|rfl|rfl<;>first|exact re _|exact Nat.le_add_right _ _
   exact I1.yu hb' (I1.hok.fresh hb')
def oB:entryFor table "zip.__getattribute__"=some Builtin.«object.__getattribute__»:=entryFor_alias (id':="object.__getattribute__") (by kernel_rfl) (by first|rfl|decide+kernel) (by decide+kernel) (by kernel_rfl)
def qY:typeLookup (.type "zip") "keys"=pure none:=by rw[typeLookup_type,builtinLookup_eq_fast];kernel_rfl
def vW:typeLookup (.type "zip") "__getattr__"=pure none:=by rw[typeLookup_type,builtinLookup_eq_fast];kernel_rfl
def wo (a:Addr)(vs:Array Value)(u:Tok):Meets (Builtin.«object.__getattribute__» ⟨[.ref a,.str "keys" u],[]⟩) (λA R s=>s.heap.get? a=some { cls:=.type "zip",dict:=none,data:=.fields vs,slots:=#[] }/\raisesAttr (.ref a) "keys" A R s):=
 Meets.of_wp λprog w A R s ⟨hx,hs⟩=>by
  obtain⟨hp,g,d,tk,os⟩:=s;have hT:(⟨hp,g,d,tk,os⟩:Shared).TypeIs (.ref a) "zip":=⟨_,hx,rfl⟩;have f4:=qY;unfold Builtin.«object.__getattribute__»
  repeat(any_goals first|assumption|wp_step)
  exact wpAny_raiseAttrError hs.1 hs.2 (attrMsg_fits (by decide+kernel) (by rw[sizeLine_eq];decide+kernel))
section
variable {prog:Program}{w:World}{A:Around}{E:MC}{s:Shared}{a:Addr}{vs:Array Value}
def xF (hA:A.handled=none)(hx:s.heap.get? a=some { cls:=.type "zip",dict:=none,data:=.fields vs,slots:=#[] })
  (q:∀ h' t',(∀ c u,s.heap.get? c=some u->h'.get? c=some u)->Q none { s with heap:=h',toks:=t' }):wpAny (model prog w) A (getAttr? (.ref a) "keys") Q E s:=by
 obtain⟨hp,g,d,tk,os⟩:=s;have hT:∀ t',(⟨hp,g,d,t',os⟩:Shared).TypeIs (.ref a) "zip":=λ_=>⟨_,hx,rfl⟩
 have f1:=sub_AttributeError;have f3:=PySem.F.slot_zip_getattribute.lookup;have f4:=PySem.F.slot_zip_getattribute.bind (.ref a);have f5:=vW;unfold getAttr? getAttrBy? getAttrBy
 repeat(any_goals first|assumption|((with_reducible show wpAny _ _ (call (Value.builtin "zip.__getattribute__") _ _) _ _ _);refine call_meets PySem.F.slot_zip_getattribute (hT _) oB (PySem.F.args_zip_getattribute_2 _ _) (wo a vs _) ⟨hx,hA,λh' tk' e he=>?_⟩)|wp_step)
 obtain⟨t1,u1,e1⟩:=he.there;show wpAny _ _ (getattributeRaised _ _ _ _ _ _ _) _ _ _;unfold getattributeRaised
 repeat(any_goals first|assumption|wp_step)
 exact q _ _ he.keeps
end
structure Zs (h:Heap) (tp1 tp2:Bool) (z TI TO i1 i2 l1 l2:Addr) (i:Nat) (xs ys:Array Value):Prop where
 zo:(∃ f1,bW h z TI TO .none f1)\/∃ (T:Int) (fb:Bool) (o:Obj),bW h z TI TO (rawInt T) (.bool fb)/\h.get? T.toNat=some o/\T.toNat≠z/\T.toNat≠TO/\T.toNat≠i1/\T.toNat≠i2
 hI:IsPair h TI (.ref i1) (.ref i2)
 hO:∃ a b,IsPair h TO a b
 g1:bp tp1 h i1 l1 i
 g2:bp tp2 h i2 l2 i
 t1:bN tp1 h l1 xs
 t2:bN tp2 h l2 ys
variable {d:Addr}
section
variable {prog:Program}{w:World}{A:Around}{E:MC}{s:Shared}{tp1 tp2:Bool}{z TI TO i1 i2 l1 l2:Addr}{i:Nat}{xs ys:Array Value}{x y:Value}
def Zs.next (D:ZipApart z TI TO i1 i2 l1 l2)(Z:Zs s.heap tp1 tp2 z TI TO i1 i2 l1 l2 i xs ys)(hx:xs[i]? =some x)(hy:ys[i]? =some y)
  (q:∀ h',Zs h' tp1 tp2 z TI TO i1 i2 l1 l2 (i+1) xs ys->IsPair h' s.heap.objs.size x y->h'.objs.size=s.heap.objs.size+1->(∀ c o,c≠z->c≠TO->c≠i1->c≠i2->s.heap.get? c=some o->h'.get? c=some o)->Q (some (.ref s.heap.objs.size)) { s with heap:=h' }):
  wpAny (model prog w) A (pyNext (.ref z)) Q E s:=by
 obtain⟨zo,hI,⟨a,b,hO⟩,g1,g2,t1,t2⟩:=Z;have n0:∀ {c o},s.heap.get? c=some o->s.heap.objs.size≠c:=λe=>Nat.ne_of_gt (ut e)
 rcases zo with⟨f1,hz⟩|⟨T,fb,o,hz,hT,n1,n2,n3,n4⟩
 .refine uc D hz hI hO g1 g2 t1 t2 hx hy λh' z1 o1 j1 j2 p1 sz k=>?_
  refine q h' ⟨.inr ⟨s.heap.objs.size,false,_,z1,p1,n0 hz,n0 hO,Nat.ne_of_gt g1.lt,Nat.ne_of_gt g2.lt⟩,k _ _ D.TIz D.TITO D.TIi1 D.TIi2 hI,⟨_,_,o1⟩,j1,j2,t1.to λo e=>k _ o D.l1z D.l1TO D.l1i1 D.l1i2 e,t2.to λo e=>k _ o D.l2z D.l2TO D.l2i1 D.l2i2 e⟩ p1 sz k
 .refine B3 D hz hT hI g1 g2 t1 t2 hx hy λh' z1 j1 j2 p1 sz k=>?_
  exact q h' ⟨.inr ⟨T,true,o,z1,k _ _ n1 n3 n4 hT,n1,n2,n3,n4⟩,k _ _ D.TIz D.TIi1 D.TIi2 hI,⟨a,b,k _ _ D.TOz D.TOi1 D.TOi2 hO⟩,j1,j2,t1.to λo e=>k _ o D.l1z D.l1i1 D.l1i2 e,t2.to λo e=>k _ o D.l2z D.l2i1 D.l2i2 e⟩ p1 sz λc o m1 _ m3 m4 e=>k c o m1 m3 m4 e
def Zs.stop (hh:A.handled=none)(D:ZipApart z TI TO i1 i2 l1 l2)(Z:Zs s.heap tp1 tp2 z TI TO i1 i2 l1 l2 i xs ys)(hx:xs[i]? =none\/ys[i]? =none)
  (q:∀ h',(∀ c o,c≠z->c≠TO->c≠i1->c≠i2->s.heap.get? c=some o->h'.get? c=some o)->Q none { s with heap:=h' }):wpAny (model prog w) A (pyNext (.ref z)) Q E s:=by
 obtain⟨zo,hI,⟨a,b,hO⟩,g1,g2,t1,t2⟩:=Z;rcases zo with⟨f1,hz⟩|⟨T,fb,o,hz,hT,_⟩
 .exact zv hh D hz hI hO g1 g2 t1 t2 hx q
 .exact yC hh D hz hT hI g1 g2 t1 t2 hx λh' k=>q h' λc o m1 _ m3 m4 e=>k c o m1 m3 m4 e
def Zs.keep {h':Heap}(Z:Zs h tp1 tp2 z TI TO i1 i2 l1 l2 i xs ys)(k:∀ c o,h.get? c=some o->c≠d->h'.get? c=some o) (n:d≠z/\d≠TI/\d≠TO/\d≠i1/\d≠i2/\d≠l1/\d≠l2) (hd:∃ o,h'.get? d=some o):Zs h' tp1 tp2 z TI TO i1 i2 l1 l2 i xs ys:=by
 obtain⟨zo,hI,⟨a,b,hO⟩,g1,g2,t1,t2⟩:=Z;obtain⟨m1,m2,m3,m4,m5,m6,m7⟩:=n;refine⟨?_,k _ _ hI m2.symm,⟨a,b,k _ _ hO m3.symm⟩,g1.to λo e=>k _ o e m4.symm,g2.to λo e=>k _ o e m5.symm,t1.to λo e=>k _ o e m6.symm,t2.to λo e=>k _ o e m7.symm⟩;rcases zo with⟨f1,hz⟩|⟨T,fb,o,hz,hT,r⟩
 .exact .inl ⟨f1,k _ _ hz m1.symm⟩
 .by_cases e:T.toNat=d
  .obtain⟨o',ho⟩:=hd;exact .inr ⟨T,fb,o',k _ _ hz m1.symm,by rw[e];exact ho,r⟩
  .exact .inr ⟨T,fb,o,k _ _ hz m1.symm,k _ _ hT e,r⟩
end
def fH:plainId "dict.update.loop"=true:=by decide+kernel
def mC:entryFor table "dict.update.loop"=some Builtin.«dict.update.loop»:=entryFor_of_tree (by kernel_rfl)
section
variable {prog:Program}{w:World}{A:Around}{tp1 tp2:Bool}{z TI TO i1 i2 l1 l2 d:Addr}{xs ys:Array Value}{Ky:Type} [DecidableEq Ky] {knd:KeyKind prog w Ky}
def zx (hh:A.handled=none)(D:ZipApart z TI TO i1 i2 l1 l2)(nd:d≠z/\d≠TI/\d≠TO/\d≠i1/\d≠i2/\d≠l1/\d≠l2)(ks:List Ky)(hk:∀ (j:Nat) x,xs[j]? =some x->∃ k,ks[j]? =some k/\knd.is k x=true) (hz:xs.size=ys.size):
  ∀ (m i:Nat),xs.size-i=m->i<=xs.size->∀ (s:Shared) (kvs:List (Ky×Value)) (R:Result->Shared->Prop),Zs s.heap tp1 tp2 z TI TO i1 i2 l1 l2 i xs ys->s.heap.DictOf knd d kvs->kvs.length+m<=bn->
  (∀ h' t',h'.DictOf knd d (merged kvs ((ks.zip ys.toList).drop i))->(∀ c o,c≠z->c≠TO->c≠i1->c≠i2->c≠d->s.heap.get? c=some o->h'.get? c=some o)->R (.ok (.ret .none)) { s with heap:=h',toks:=t' })->
  wpAny (model prog w) A.in1 (Builtin.«dict.update.loop» ⟨[.ref d,.ref z,rawInt i,.none],[]⟩) (λfin s'=>match fin with| .done f=>R (.ok f) s'| .again c'=>c'.quiet=true/\codeAny (model prog w) A c' R s') (λe s'=>R (.error e) s') s:=by
 intro m
 induction m with
 |zero=>
  intro i hm hi s kvs R Z dd hl q;show wpAny _ _ (pyNext (.ref z) >>= _) _ _ _;refine ad (Z.stop (show A.in1.handled=none from hh) D (.inl (by simp;omega)) λh' k=>?_);show wpAny _ _ (Builtin.Dict.addKeywords d [] >>= _) _ _ _;refine ad (am (am ?_));have e:(ks.zip ys.toList).drop i=[]:=by
   rw[List.drop_eq_nil_iff,length_zip];simp
   omega
  rw[e]at q;refine q h' s.toks ?_ λc o n1 n2 n3 n4 _ e=>k c o n1 n2 n3 n4 e
  obtain⟨o,es,ep,ho,r⟩:=dd;exact⟨o,es,ep,k _ _ nd.1 nd.2.2.1 nd.2.2.2.1 nd.2.2.2.2.1 ho,r⟩
 |succ m ih=>
  intro i hm hi s kvs R Z dd hl q;have h1:i<xs.size:=by omega
  have h2:i<ys.size:=by omega
  have e1:xs[i]? =some xs[i]:=Array.getElem?_eq_getElem h1;have e2:ys[i]? =some ys[i]:=Array.getElem?_eq_getElem h2;obtain⟨k,hk1,hk2⟩:=hk i _ e1;show wpAny _ _ (pyNext (.ref z) >>= _) _ _ _;refine ad (Z.next D e1 e2 λh' Z' p sz fr=>?_);show wpAny _ _ (holding [_] _ >>= _) _ _ _;refine ad (bd ?_);refine ad ?_;have hT:({ s with heap:=h' }:Shared).TypeIs (.ref s.heap.objs.size) "tuple":=⟨_,p,rfl⟩;refine wpAny_tryCatch ?_;unfold Builtin.Dict.pairItems;refine ad (wpAny_typeOf hT ?_);rw[if_pos (by decide)];refine ad (wpAny_seqItems p rfl (am ?_));show wpAny _ _ (holding [_,_] (dictSet d xs[i] ys[i])) _ _ _;refine bd ?_;have dd':h'.DictOf knd d kvs:=by
   obtain⟨o,es,ep,ho,r⟩:=dd;exact⟨o,es,ep,fr _ _ nd.1 nd.2.2.1 nd.2.2.2.1 nd.2.2.2.2.1 ho,r⟩
  refine wpAny_dictSet_pairs (s:={ s with heap:=h' }) (hsz:=by omega) hk2 dd' λh2' d2 b2=>?_
  show wpAny _ _ (pure (Fin.again (.builtin "dict.update.loop" ⟨[.ref d,.ref z,rawInt ((i:Int)+1),.none],[]⟩))) _ _ _;refine am ⟨plainId_quiet fH _,codeAny_builtin mC ?_⟩;rw[Around.under_plainId fH _,show((i:Int)+1)=((i+1:Nat):Int) by push_cast;rfl];have hd:∃ o,h2'.get? d=some o:=let⟨o,_,_,ho,_⟩:=d2;⟨o,ho⟩;refine ih (i+1) nofun nofun { s with heap:=h2',toks:=s.toks+1 } (stored kvs k ys[i]) R (Z'.keep (λc o e n=>b2.extBut _ _ n e) nd hd) d2 ?_ λh3 t3 d3 f3=>?_
  .have:(stored kvs k ys[i]).length<=kvs.length+1:=by
    unfold stored
    split
    .rw[ce];omega
    .rw[ci];simp
   omega
  .have ed:(ks.zip ys.toList).drop i=(k,ys[i])::(ks.zip ys.toList).drop (i+1):=by
    have:(ks.zip ys.toList)[i]? =some (k,ys[i]):=by
     rw[List.getElem?_zip_eq_some];exact⟨hk1,by simpa using h2⟩
    obtain⟨hlt,he⟩:=tz.mp this;rw[List.drop_eq_getElem_cons hlt,he]
   refine q h3 t3 ?_ λc o n1 n2 n3 n4 n5 e=>f3 c o n1 n2 n3 n4 n5 (b2.extBut _ _ n5 (fr c o n1 n2 n3 n4 e))
   rw[ed];exact d3
def nM {E:MC}{Q:MC}(hh:A.handled=none)(D:ZipApart z TI TO i1 i2 l1 l2)(ks:List Ky)(hk:∀ (j:Nat) x,xs[j]? =some x->∃ k,ks[j]? =some k/\knd.is k x=true) (hz:xs.size=ys.size) (hn:ks.Nodup) (hkl:ks.length=xs.size) (hsz:xs.size<=bn)
  (Z:Zs s.heap tp1 tp2 z TI TO i1 i2 l1 l2 0 xs ys) (hzo:∃ f1,bW s.heap z TI TO .none f1)
  (q:∀ h' t',h'.DictOf knd s.heap.objs.size (ks.zip ys.toList)->(∀ c o,c≠z->c≠TO->c≠i1->c≠i2->s.heap.get? c=some o->h'.get? c=some o)->Q (.ref s.heap.objs.size) { s with heap:=h',toks:=t' }):
  wpAny (model prog w) A (call (.type "dict") [.ref z]) Q E s:=by
 refine callType_codes (Q₁:=λobj s1=>obj=.ref s.heap.objs.size/\s1={ s with heap:=s.heap.push { cls:=.type "dict",data:=.dict #[] } }) PySem.F.kt_called_dict (PySem.F.kt_typeCall_dict_1 _) PySem.F.entry_dict_init (kt_code_dict_new _ ⟨rfl,rfl⟩) ?_;rintro obj s1 ⟨rfl,rfl⟩;have dn:(s.heap.push { cls:=.type "dict",data:=.dict #[] }).DictOf knd s.heap.objs.size []:=Heap.DictOf.new s.heap;refine⟨dn.typeIs,PySem.F.args_dict_init_2 _ _,?_⟩;unfold Builtin.«dict.__init__»;refine ad ?_;unfold Builtin.Dict.selfAndRest;refine ad (wpAny_notOrdered_dict dn.typeIs ?_);show wpAny _ _ (pure (s.heap.objs.size,[Value.ref z])) _ _ _;refine am ?_;show wpAny _ _ (Builtin.Dict.updateFrom "dict.__init__" s.heap.objs.size (.ref z) [] .none) _ _ _;unfold Builtin.Dict.updateFrom;obtain⟨f1,hz0⟩:=hzo;have hz1:(s.heap.push { cls:=.type "dict",data:=.dict #[] }).get? z=some _:=ul _ hz0;have hT:({ s with heap:=s.heap.push { cls:=.type "dict",data:=.dict #[] } }:Shared).TypeIs (.ref z) "zip":=⟨_,hz1,rfl⟩;refine ad (wpAny_typeOf hT ?_);rw[if_pos (by decide)];refine ad (xF hh hz1 λh1 t1 k1=>?_);rw[if_pos (show(none:Option Value).isNone=true from rfl)];refine ad (wpAny_rule ?_);refine ad (la (s:={ s with heap:=h1,toks:=t1 }) (k1 _ _ hz1) ?_);have n0:∀ {c o},s.heap.get? c=some o->s.heap.objs.size≠c:=λe=>Nat.ne_of_gt (ut e)
 have nd:s.heap.objs.size≠z/\s.heap.objs.size≠TI/\s.heap.objs.size≠TO/\s.heap.objs.size≠i1/\s.heap.objs.size≠i2/\s.heap.objs.size≠l1/\s.heap.objs.size≠l2:=by
  obtain⟨a,b,hO⟩:=Z.hO;exact⟨n0 hz0,n0 Z.hI,n0 hO,Nat.ne_of_gt Z.g1.lt,Nat.ne_of_gt Z.g2.lt,Nat.ne_of_gt Z.t1.lt,Nat.ne_of_gt Z.t2.lt⟩
 have kk:∀ c o,s.heap.get? c=some o->h1.get? c=some o:=λc o e=>k1 _ _ (ul _ e)
 have d1:h1.DictOf knd s.heap.objs.size []:=by
  obtain⟨o,es,ep,ho,r⟩:=dn;exact⟨o,es,ep,k1 _ _ ho,r⟩
 refine am ⟨plainId_quiet fH _,codeAny_builtin mC ?_⟩;rw[Around.under_plainId fH _];refine zx (A:=A.in1) (d:=s.heap.objs.size) hh D nd ks hk hz _ 0 rfl (Nat.zero_le _) { s with heap:=h1,toks:=t1 } [] _ (Z.keep (λc o e _=>kk c o e) nd (let⟨o,_,_,ho,_⟩:=d1;⟨o,ho⟩)) d1 (by simpa using hsz) λh' t' d' f'=>?_
 rw[drop_zero,merged_nil_of_nodup _ (by rw[List.map_fst_zip (by simp;omega)];exact hn)]at d';exact⟨rfl,q h' t' d' λc o n1 n2 n3 n4 e=>f' c o n1 n2 n3 n4 (n0 e).symm (kk c o e)⟩
end
def zN:bootBuiltins "dict"=some (.type "dict"):=by decide+kernel
def Dj {P:Program}{w:World}:∀ {ks:List Key}{us:List Value},Vals (ks.map kV) us->∀ (j:Nat) u,us[j]? =some u->∃ k,ks[j]? =some k/\(aL P w).is k u=true
 | [],_,.nil,j,u,h=>by simp at h
 |k::ks,_,.cons r rs,0,u,h=>by
  simp at h;subst h;exact⟨k,rfl,qq r⟩
 |k::ks,_,.cons r rs,j+1,u,h=>by
  simp at h;obtain⟨k',e1,e2⟩:=Dj (P:=P) (w:=w) rs j u h;exact⟨k',by simpa using e1,e2⟩
def DJ:∀ {ks:List Key}{ys:List V}{us:List Value},Vals ys us->KV (ks.zip ys) (ks.zip us)
 | [],_,_,_=>by simp[List.zip];exact .nil
 |_::_,_,_,.nil=>.nil
 |k::ks,_,_,.cons r rs=>.cons ⟨rfl,r⟩ (DJ rs)
abbrev Lw (K:W.Frag)(v u:V)(H:Hp)(Q:VK):Prop:=∃ tp1 l1 tp2 l2,∃ (ks:List Key) (ys:List V),v=.ref l1/\u=.ref l2/\Sq K tp1 H l1 (ks.map kV)/\Sq K tp2 H l2 ys/\ks.Nodup/\ks.length=ys.length/\ks.length<=1000/\∀ p,H p=none->Q (.ref p) (upd H p (.dK (ks.zip ys)))
abbrev Mn (K:W.Frag)(ta:TA):TE:=λU H Q=>ta U H λvs H1=>∃ v u,vs=[v,u]/\Lw K v u H1 Q
def A9 {a b:Expr}{p2 pos2:Pos}(hc:X.calm=true)(hg:Gl X "dict") (hm:X.mg "dict"=none) (hg2:Gl X "zip") (hm2:X.mg "zip"=none) (ha:PA X [a,b] ta)
  (hs:bm [a,b] X.env=(false,eval a X.env)::bm [b] X.env:=by rfl) (hpl:(backTo pos2 (bm [b] X.env)).any (·.1)=false:=by rfl):
  PE X (.Call (.Name "dict" p) [.Call (.Name "zip" p2) [a,b] [] pos2] [] pos) (Mn X.K ta):=by
 intro Y s U H Q I h;have h1:bm [.Call (.Name "zip" p2) [a,b] [] pos2] X.env=[(false,eval (.Call (.Name "zip" p2) [a,b] [] pos2) X.env)]:=rfl;refine Call_ (dI I hg hm zN (PyProof.Rows.callWith_type1 ?_ h1 rfl));rw[h1];show wpAny _ _ (spliced ((false,eval (.Call (.Name "zip" p2) [a,b] [] pos2) X.env)::backTo pos [])) _ _ _;refine Calls.spliced_cons ?_;refine Call_ (dI I hg2 hm2 yM (PyProof.Rows.callWith_type1 (aB (ha pos2 Y s U H _ I h) λus s1 ⟨vs,H1,I1,r1,q1⟩=>?_) hs hpl));obtain⟨v,u,e,tp1,l1,tp2,l2,ks,ys,e1,e2,q1,q2,kn,kl,kz,q⟩:=q1;subst e e1 e2;cases r1 with
 |cons r rr=>
  cases rr with
  |cons r' rr'=>
   cases rr';cases r;cases r';obtain⟨is1,v1,t1⟩:=I1.sq q1;obtain⟨is2,v2,t2⟩:=I1.sq q2;refine qO t1 t2 λh' hz hI hO g1 g2 hsz hk=>?_
   refine Calls.spliced_nil ?_;have n1:is1.length=ks.length:=by rw[<-v1.length,ce]
   have n2:is2.length=ks.length:=by rw[<-v2.length,kl]
   refine nM (s:={ s1 with heap:=h' }) (knd:=aL X.prog X.w) (I1.ok.hd hc) (zy t1.lt t2.lt) ks (λj x hx=>Dj v1 j x (by simpa using hx)) (by simp;omega) kn (by simp;omega) (by simp;rw[n1];exact fits kz)
    ⟨.inl ⟨_,hz⟩,hI,⟨_,_,hO⟩,g1,g2,t1.to λo e=>hk _ o e,t2.to λo e=>hk _ o e⟩ ⟨_,hz⟩ λh2 t2' d2 f2=>?_
   have lt0:∀ {c o},s1.heap.get? c=some o->c<s1.heap.objs.size:=λe=>ut e
   have hfree:H1 h'.objs.size=none:=I1.hok.fresh (by rw[hsz];exact Nat.le_add_right _ _);refine⟨.ref h'.objs.size,_,I1.laid (a:=h'.objs.size) (o:=.dK (ks.zip ys)) (t':=t2') (λc o e=>?_) (by rw[hsz];exact Nat.le_add_right _ _) ⟨?_,?_,_,DJ v2,by simpa using d2⟩,rfl,q _ hfree⟩
   .have hl:=lt0 e;refine f2 c o (pi (ol hl (Nat.le_add_right _ _))) (pi (ol hl (Nat.le_add_right _ _))) (pi hl) (pi (ol hl (Nat.le_add_right _ _))) (hk c o e)
   .rw[length_zip];exact fits (Nat.le_trans (Nat.min_le_left _ _) kz)
   .exact beq_eq_false_iff_ne.mpr (Nat.ne_of_gt (ol I1.big (by rw[hsz];exact Nat.le_add_right _ _)))
section
variable {X:Cx}{Y:MD}{U:St}{H:Hp}{s:Shared}{a:Addr}{kvs:List (Key×V)}{A:Around}{E:MC}
def zB {Q:MC}(I:Inv X Y U H s)(e:Rd H a (.dK kvs))(h:∀ p s',H p=none->Inv X Y U (upd H p (.dK kvs)) s'->Q (.ref p) s'):wpAny (model X.prog X.w) A (call (.type "dict") [.ref a]) Q E s:=by
 obtain⟨z,hd,vs,rel,dd⟩:=nA I.hok e;refine kt_call_dict hd dd (by rw[<-rel.length];exact z) λh' dd' hs=>?_
 refine h _ _ (I.hok.fresh (re _)) (I.laid (a:=s.heap.objs.size) (o:=.dK kvs) (t':=s.toks) (λb q hq=>?_) (re _) (sh z (beq_eq_false_iff_ne.mpr (Ne.symm (pi I.big))) rel dd'));exact(hs.2 b (pi (ut hq))).trans (ul _ hq)
end
section
variable {X:Cx}{Y:MD}{U:St}{H:Hp}{s:Shared}
end
def Iy (d:Addr)(hd:(d ==sysModules)=false)(dd:Option Addr)(ep:Nat)(sl:Array (Option Value)):Meets (Builtin.«dict.__eq__» ⟨[.ref d,.ref d],[]⟩) (λ_ R s=>s.heap.get? d=some ⟨.type "dict",dd,.dict #[] ep,sl⟩/\R (.ok (.ret (.bool true))) s):=by
 intro prog w A R s hs;obtain⟨h,g,dp,tt,os⟩:=s;obtain⟨ho,q⟩:=hs;have hT:(⟨h,g,dp,tt,os⟩:Shared).TypeIs (.ref d) "dict":=⟨_,ho,rfl⟩;unfold Builtin.«dict.__eq__»
 k_delta "equality"
 unfold Builtin.Dict.dictSlotArgs;refine ad (ad (wpAny_notOrdered_dict hT ?_));show wpAny _ _ (pure (Value.ref d,[Value.ref d]) >>= _) _ _ _;refine ad (am (am ?_));have hi:=PySem.F.kt_sub_dict;show wpAny _ _ (isInstance (.ref d) (.type "dict") >>= _) _ _ _;unfold Builtin.Dict.samePairs;simp only[Std.Legacy.Range.forIn_eq_forIn_range']
 repeat(any_goals first|assumption|wp_step)
variable {A:Around}{dd:Option Addr}{sl:Array (Option Value)}
def HN (hd:(d ==sysModules)=false){ep:Nat}(ho:s.heap.get? d=some ⟨.type "dict",dd,.dict #[] ep,sl⟩) (hu:A.units<cLine):SeqAt.RcAt A s (.ref d) (.ref d) true:=λprog w E Q h=>
 richCompare_meets_room (op:=.Eq) ⟨_,ho,rfl⟩ ⟨_,ho,rfl⟩ PySem.F.slot_dict_eq PySem.F.entry_dict_eq (PySem.F.args_dict_eq_2 _ _) (Iy d hd dd ep sl) ⟨ho,show Value.bool true≠Value.notImplemented/\Q (.bool true) s from⟨(λx=>nomatch x),h⟩⟩ hu
abbrev sU (K:W.Frag)(H:Hp)(a:Addr):Prop:=(∃ xs,aU K H a xs)\/(∃ xs,bc K H a xs)\/H a=some (.dK [])
def BR {a:Addr}(I:Inv X Y U H s)(h:sU X.K H a)(hu:A.units+2<cLine):SeqAt.RcAt A s (.ref a) (.ref a) true:=by
 rcases h with⟨xs,h⟩|⟨xs,h⟩|h
 .obtain⟨ia,ra,pa,_⟩:=I.list h;have rc:=SeqAt.RcAt.lists (A:=A) (e:=λ_=>true) pa.isList pa.isList rfl nofun λj h1 h2=>SeqAt.EqAt.same _
  have e:(List.range ia.toArray.size).all (λ_=>true)=true:=by simp
  rwa [e]at rc
 .obtain⟨ia,ra,pa,_⟩:=I.tuple h;have rc:=SeqAt.RcAt.tuples (A:=A) (e:=λ_=>true) (show s.heap.IsTuple a ia.toArray from pa) (show s.heap.IsTuple a ia.toArray from pa) nofun λj h1 h2=>SeqAt.EqAt.same _
  have e:((List.range (min ia.toArray.size ia.toArray.size)).all (λ_=>true)&&ia.toArray.size ==ia.toArray.size)=true:=by simp
  rwa [e]at rc
 .obtain⟨z,hd,vs,rel,dd⟩:=nA I.hok (.inl h);cases rel;obtain⟨⟨c,d,da,sl⟩,es,ep,ho,hx,he,_,hp,_⟩:=dd;have e0:es=#[]:=by
   cases hp':es.toList with
   |nil=>exact Array.toList_eq_nil_iff.mp hp'
   |cons a b=>rw[hp']at hp;cases hp
  subst e0;obtain rfl:da=.dict #[] ep:=he;obtain⟨rfl,_⟩:=hx;exact HN hd ho nofun
section
variable {prog:Program}{w:World}{A:Around}{E:MC}{s:Shared}{T:String}{r d:Addr}{n:Nat}{P:Nat->Value->Prop}{OK:Heap->Prop}
end
abbrev lK (tp:Bool):String:=match tp with
 |true=>"tuple"
 |false=>"list"
abbrev y8 (K:W.Frag)(C:Addr):Bool:=findIn K (.ref C) "__eq__" ==some (some (.builtin "object.__eq__"))&&subIn K (.ref C) (.type "str") ==some false&&subIn K (.ref C) (.type "object") ==some true
def sJ {prog:Program}{w:World}{K:Frag}{C:Addr}{R:Result->Shared->Prop}(X:K.In s.heap)(hm:makesIn K C=true)(hi:findIn K (.ref C) "__init__"=some (some (.builtin "object.__init__")))
  (h:R (.ok (.ret (.ref (s.heap.objs.size+1)))) { s with heap:=(s.heap.push emptyDict).push (instObj C s.heap.objs.size) }):codeAny (model prog w) A (.call (.ref C) ⟨[],[]⟩) R s:=by
 obtain⟨hh,g,d,t,os⟩:=s;have Y:=makes_of (M:=model prog w) X hm;refine make_core Y (looks_findIn X hi) (λz=>Looks.of_pure (oi_bind z)) (.inr ⟨rfl,rfl⟩) ?_;have k:∀ b o,hh.get? b=some o->((hh.push emptyDict).push (instObj C hh.objs.size)).get? b=some o:=λb o e=>ul _ (ul _ e)
 have hx:((hh.push emptyDict).push (instObj C hh.objs.size)).get? (hh.objs.size+1)=some (instObj C hh.objs.size):=by heap_get
 have t1:Looks (model prog w) ((hh.push emptyDict).push (instObj C hh.objs.size)) (typeOf (.ref (hh.objs.size+1))) (.ref C):=Looks.andThen (Looks.ld hx) .now;have t2:Looks (model prog w) ((hh.push emptyDict).push (instObj C hh.objs.size)) (isInstance (.ref (hh.objs.size+1)) (.type "object")) true:=t1.andThen (Y.top.keeps k);refine codeAny_call_builtin oi_plain entry_oi (@check_slot (model prog w) _ _ _ "object.__init__" "object" "__init__" (.ref (hh.objs.size+1)) [] [] _ oi_kind oi_split t2 (oi_args _) ?_);rw[oi_run];exact am ⟨rfl,h⟩
structure LA (K:Frag) (C:Addr):Prop where
 makes:makesIn K C=true
 init:findIn K (.ref C) "__init__"=some (some (.builtin "object.__init__"))
 kp:keepIn K (.ref C)=true
abbrev K5 (C:Addr):TE:=λ_ H Q=>∀ x dx,H x=none->H dx=none->dx≠x->Q (.ref x) (upd (upd H dx (.own x)) x (.ins C dx []))
def yv {C:Addr}{x:Str}(M:LA X.K C)(hg:Gl X x)(hm:X.mg x=some (.ref C))(hdb:(x ==("__debug__":Str))=false):PE X (.Call (.Name x p) [] [] pos) (K5 C):=by
 intro Y s U H Q I h;refine bv (bL I hg hm ?_ hdb);refine W.callWith_K0 I.b9 M.kp (wpAny_call (sJ I.b9 M.makes M.init ?_));have I2:=Inv.made (C:=C) I;exact⟨.ref (s.heap.objs.size+1),_,I2,rfl,h (s.heap.objs.size+1) s.heap.objs.size (I.hok.fresh (Nat.le_succ _)) (I.hok.fresh (re _)) (pi (Nat.lt_succ_self _))⟩
@[reducible]def VV:List (V×V)->List (Value×Value)->Prop:=Paired λp q=>RelV p.1 q.1/\RelV p.2 q.2
abbrev PQ (X:Cx)(pos:Pos)(keys:List (Option Expr))(values:List Expr)(t:St->Hp->(List (V×V)->Hp->Prop)->Prop):Prop:=
 ∀ (Y:MD) (s:Shared) (U:St) (H:Hp) (Q:List (V×V)->Hp->Prop),Inv X Y U H s->t U H Q->
  wpAny (model X.prog X.w) X.A (evalPairs (pairTrees keys values X.env pos)) (λvs s'=>∃ ps H',Inv X Y U H' s'/\VV ps vs/\Q ps H') X.xe s
def EI:PQ X pos [] [] (λ_ H Q=>Q [] H):=λY s U H Q I h=>pairTrees_nil_walk ⟨[],H,I,.nil,h⟩
variable {t:St->Hp->(List (V×V)->Hp->Prop)->Prop}{vs:List Expr}
def BF {k v:Expr}{ks:List (Option Expr)}{tk tv:TE}(hk:PE X k tk)(hv:PE X v tv)(hr:PQ X pos ks vs t):
  PQ X pos (some k::ks) (v::vs) (λU H Q=>tk U H λx H1=>tv U H1 λy H2=>t U H2 λps H3=>Q ((x,y)::ps) H3):=λY s U H Q I h=>
 pairTrees_cons_walk (aB (hk Y s U H _ I h) λu s1 ⟨x,H1,I1,rx,q1⟩=>aB (hv Y s1 U H1 _ I1 q1) λw2 s2 ⟨y,H2,I2,ry,q2⟩=>
  aB (hr Y s2 U H2 _ I2 q2) λws s3 ⟨ps,H3,I3,rel,q3⟩=>⟨(x,y)::ps,H3,I3,.cons ⟨rx,ry⟩ rel,q3⟩)
abbrev i4 (kvs more:List (Key×V)):List (Key×V):=more.foldl (λacc kv=>putK acc kv.1 kv.2) kvs
def KV.merge:∀ {more:List (Key×V)}{rs:List (Key×Value)}{kvs:List (Key×V)}{vs:List (Key×Value)},KV more rs->KV kvs vs->KV (i4 kvs more) (merged vs rs):=by
 intro more rs kvs vs r;unfold KV at r
 induction r generalizing kvs vs with
 |nil=>intro q;exact q
 | @cons p q ps qs h t ih=>
  intro r0;have e:KV (putK kvs p.1 p.2) (stored vs q.1 q.2):=by
   have:=r0.put p.1 h.2;rw[<-h.1];exact this
  exact ih e
def fY:∀ (more kvs:List (Key×V)),(i4 kvs more).length<=kvs.length+more.length
 | [],kvs=>by show kvs.length<=kvs.length+0;omega
 |p::r,kvs=>by
  have h1:=fY r (putK kvs p.1 p.2);have h2:=fc kvs p.1 p.2;show(i4 (putK kvs p.1 p.2) r).length<=_;rw[length_cons];omega
def kD {P:Program}{w:World}:∀ {kvs:List (Key×V)}{ws:List (Value×Value)},VV (kvs.map λkv=>(kV kv.1,kv.2)) ws->∃ rs,Carries (aL P w) ws rs/\KV kvs rs
 | [],_,r=>by rw[List.map_nil]at r;cases r;exact⟨[],True.intro,.nil⟩
 |p::kvs,_,r=>by
  rw[map_cons]at r;cases r with
  | @cons a b as bs h t=>
   obtain⟨rs,c,q⟩:=kD (P:=P) (w:=w) t;obtain⟨b1,b2⟩:=b;exact⟨(p.1,b2)::rs,⟨qq h.1,rfl,c⟩,.cons ⟨rfl,h.2⟩ q⟩
abbrev HQ (t:St->Hp->(List (V×V)->Hp->Prop)->Prop):TE:=λU H Q=>∀ p,H p=none->t U (upd H p (.dK [])) λps H2=>H2 p=some (.dK [])/\∃ kvs:List (Key×V),ps=kvs.map (λkv=>(kV kv.1,kv.2))/\kvs.length<=15/\Q (.ref p) (upd H2 p (.dK (i4 [] kvs)))
def AW {keys:List (Option Expr)}{values:List Expr}(h:PQ X pos keys values t)(hall:keys.all (·.isSome)=true)(hl:keys.length=values.length)(h0:keys≠[])
  (h15:keys.length<=15):PE X (.Dict keys values pos) (HQ t):=by
 intro Y s U H Q I q;have hn:=I.hok.fresh (re s.heap.objs.size);have I1:=I.laid (a:=s.heap.objs.size) (o:=.dK []) (h':=s.heap.push { cls:=.type "dict",data:=.dict #[] }) (t':=s.toks) (λ_ _ q=>ul _ q) (re _) (qk s.heap I.big);refine wpAny_Dict_walk (knd:=aL X.prog X.w) hall hl h0 h15 (aB (h Y _ U _ _ I1 (q _ hn)) λws s2 ⟨ps,H2,I2,rel,e,kvs,ep,lk,q2⟩=>?_);subst ep;obtain⟨rs,c,rk⟩:=kD (P:=X.prog) (w:=X.w) rel;obtain⟨z,hd,vs0,r0,dd⟩:=DU I2.hok e;cases r0;refine⟨rs,c,dd,λh' dd' hs=>⟨.ref s.heap.objs.size,_,?_,rfl,q2⟩⟩;have hz:(i4 [] kvs).length<=bn:=by
  have h1:=fY kvs [];rw[length_nil]at h1;rw[sizeLine_eq];omega
 have he:∃ q,h'.get? s.heap.objs.size=some q:=let⟨q,_,_,hq,_⟩:=dd';⟨q,hq⟩;exact og I2 (by rw[e];exact True.intro) hs he (sh hz hd (rk.merge .nil) dd')
abbrev xR:Expr->Nat
 | .Tuple vs _ _=>vs.length
 |_=>0
abbrev FJ (sc:Scope)(tg v:Expr)(ns:List Str):Bool:=match swappedStores [tg] v { scope:=sc,locals:=0,globals:=0,cells:=[] } with
 | .pure (some l)=>l ==ns&&decide (xR v=ns.length)
 |_=>false
variable {tg:Expr}{ns:List Str}
def zI {env:Env}{v:Expr}(h:FJ env.scope tg v ns=true):swappedStores [tg] v env=pure (some ns):=by
 have e:swappedStores [tg] v env=swappedStores [tg] v { scope:=env.scope,locals:=0,globals:=0,cells:=[] }:=by
  obtain⟨sc,a,b,c,d,f,g,i,j⟩:=env
  rfl
 rw[e];unfold FJ at h
 split at h
 .rename_i l e2;rw[nl]at h;rw[e2,beq_iff_eq.mp h.1]
  rfl
 .cases h
variable {sc:Scope}
def uZ {v:Expr}(h:FJ sc tg v ns=true):xR v=ns.length:=by
 unfold FJ at h
 split at h
 .rw[nl,decide_eq_true_eq]at h;exact h.2
 .cases h
def Bc {x y:Str}(h:FJ sc tg (.Tuple vs k p) [x,y]=true):∃ a b,vs=[a,b]:=by
 have h:=uZ h
 match vs,h with
 | [a,b],_=>exact⟨a,b,rfl⟩
def vx {x y z:Str}(h:FJ sc tg (.Tuple vs k p) [x,y,z]=true):∃ a b c,vs=[a,b,c]:=by
 have h:=uZ h
 match vs,h with
 | [a,b,c],_=>exact⟨a,b,c,rfl⟩
abbrev Ie (i j:Nat)(ta:TA):TS:=λD U H=>ta U H λvs H1=>∃ v w,vs=[v,w]/\D.nx ((U.set i (some v)).set j (some w)) H1
def Cs {i j:Nat}{x y:Str}{a b:Expr}{px py pt:Pos} {kt k2 pt2} (hc:X.calm=true)(hN:X.N.Nodup)(hi:X.N[i]? =some x)(hj:X.N[j]? =some y)(hij:i≠j)
  (hx:X.env.scope.names.lookup x=some .local) (hy:X.env.scope.names.lookup y=some .local) (ha:PA X [a,b] ta)
  (hw:swappedStores [.Tuple [.Name x px,.Name y py] kt pt] (.Tuple [a,b] k2 pt2) X.env=pure (some [x,y]))
  (hs:swapsWithSole [.Tuple [.Name x px,.Name y py] kt pt] (.Tuple [a,b] k2 pt2) pos.line X.env=pure false:=by rfl):
  PS X (.Assign [.Tuple [.Name x px,.Name y py] kt pt] (.Tuple [a,b] k2 pt2) pos) (Ie i j ta):=by
 intro Y s U H D I h;rw[exec_Assign_arm];refine ad (wpAny_standAt ?_);rw[hs];refine ad (am ?_);rw[if_neg (by decide)];refine ad (Tuple_ (aB (ha _ Y s U H _ I h) λus s1 ⟨vs,H1,I1,r1,q1⟩=>?_));obtain⟨v,w,e1,q1⟩:=q1;subst e1;obtain⟨u1,u2,rfl,rv,rw'⟩:∃ u1 u2,us=[u1,u2]/\RelV v u1/\RelV w u2:=by
  cases r1 with
  |cons p q=>
   cases q with
   |cons p' q'=>
    cases q';exact⟨_,_,rfl,p,p'⟩
 refine wpAny_newObj_type ?_ (by show 2<=bn;decide);have I2:Inv X Y U H1 { s1 with heap:=s1.heap.push { cls:=.type "tuple",data:=.seq [u1,u2].toArray } }:=I1.kept (t':=s1.toks) λb o e=>ul _ e
 rw[hw];refine ad (am ?_);show wpAny (model X.prog X.w) X.A (do rule "assign.swapped-stores";let items <-unpackItems (.ref s1.heap.objs.size) 2 none;assignInOrder [λv=>bindName X.env y v,λv=>bindName X.env x v] items.reverse;pure Flow.next) _ _ _;refine ad (wpAny_rule (ad (unpackItems_tuple (items:=#[u1,u2]) (I.ok.hd hc) (IsTup.new s1.heap _) λh' hx'=>?_)));have I3:=I2.kept (h':=h') (t':=s1.toks) λb o e=>hx' b o (pi (ut e)) e
 show wpAny _ _ (assignInOrder [λv=>bindName X.env y v,λv=>bindName X.env x v] [u2,u1] >>= λ_=>pure Flow.next) _ _ _;refine ad (assignInOrder_cons (wpAny_bindName (bH I3 hN hj (.inl hy) rw' (λs2 I4=>?_) (.inr hy))));refine assignInOrder_cons (wpAny_bindName (bH I4 hN hi (.inl hx) rv (λs3 I5=>assignInOrder_nil (am ?_)) (.inr hx)));rw[set_comm _ _ (Ne.symm hij)]at I5;exact⟨_,H1,I5,q1⟩
abbrev Ja (i j l:Nat)(ta:TA):TS:=λD U H=>ta U H λvs H1=>∃ v w x,vs=[v,w,x]/\D.nx (((U.set i (some v)).set j (some w)).set l (some x)) H1
def Ci {i j l:Nat}{x y z:Str}{a b c:Expr}{px py pz pt:Pos} {kt k2 pt2} (hc:X.calm=true)(hN:X.N.Nodup)(hi:X.N[i]? =some x)(hj:X.N[j]? =some y)(hl:X.N[l]? =some z)(hij:i≠j)(hil:i≠l)(hjl:j≠l)
  (hx:X.env.scope.names.lookup x=some .local) (hy:X.env.scope.names.lookup y=some .local) (hz:X.env.scope.names.lookup z=some .local) (ha:PA X [a,b,c] ta)
  (hw:swappedStores [.Tuple [.Name x px,.Name y py,.Name z pz] kt pt] (.Tuple [a,b,c] k2 pt2) X.env=pure (some [x,y,z]))
  (hs:swapsWithSole [.Tuple [.Name x px,.Name y py,.Name z pz] kt pt] (.Tuple [a,b,c] k2 pt2) pos.line X.env=pure false:=by rfl):
  PS X (.Assign [.Tuple [.Name x px,.Name y py,.Name z pz] kt pt] (.Tuple [a,b,c] k2 pt2) pos) (Ja i j l ta):=by
 intro Y s U H D I h;rw[exec_Assign_arm];refine ad (wpAny_standAt ?_);rw[hs];refine ad (am ?_);rw[if_neg (by decide)];refine ad (Tuple_ (aB (ha _ Y s U H _ I h) λus s1 ⟨vs,H1,I1,r1,q1⟩=>?_));obtain⟨v,w,x',e1,q1⟩:=q1;subst e1;obtain⟨u1,u2,u3,rfl,rv,rw',rx'⟩:∃ u1 u2 u3,us=[u1,u2,u3]/\RelV v u1/\RelV w u2/\RelV x' u3:=by
  cases r1 with
  |cons p q=>
   cases q with
   |cons p' q'=>
    cases q' with
    |cons p2 q2=>
     cases q2;exact⟨_,_,_,rfl,p,p',p2⟩
 refine wpAny_newObj_type ?_ (by show 3<=bn;decide);have I2:Inv X Y U H1 { s1 with heap:=s1.heap.push { cls:=.type "tuple",data:=.seq [u1,u2,u3].toArray } }:=I1.kept (t':=s1.toks) λb o e=>ul _ e
 rw[hw];refine ad (am ?_);show wpAny (model X.prog X.w) X.A (do rule "assign.swapped-stores";let items <-unpackItems (.ref s1.heap.objs.size) 3 none;assignInOrder [λv=>bindName X.env z v,λv=>bindName X.env y v,λv=>bindName X.env x v] items.reverse;pure Flow.next) _ _ _;refine ad (wpAny_rule (ad (unpackItems_tuple (items:=#[u1,u2,u3]) (I.ok.hd hc) (IsTup.new s1.heap _) λh' hx'=>?_)));have I3:=I2.kept (h':=h') (t':=s1.toks) λb o e=>hx' b o (pi (ut e)) e
 show wpAny _ _ (assignInOrder [λv=>bindName X.env z v,λv=>bindName X.env y v,λv=>bindName X.env x v] [u3,u2,u1] >>= λ_=>pure Flow.next) _ _ _;refine ad (assignInOrder_cons (wpAny_bindName (bH I3 hN hl (.inl hz) rx' (λs2 I4=>?_) (.inr hz))));refine assignInOrder_cons (wpAny_bindName (bH I4 hN hj (.inl hy) rw' (λs3 I5=>?_) (.inr hy)));refine assignInOrder_cons (wpAny_bindName (bH I5 hN hi (.inl hx) rv (λs4 I6=>assignInOrder_nil (am ?_)) (.inr hx)));rw[set_comm _ _ (Ne.symm hij),set_comm _ _ (Ne.symm hil),set_comm _ _ (Ne.symm hjl)]at I6;exact⟨_,H1,I6,q1⟩
abbrev tF (K:W.Frag)(C:Addr):Bool:=findIn K (.ref C) "__ne__" ==some (some (.builtin "object.__ne__"))&&y8 K C
section
variable {A:Around}{s:Shared}{l C dx:Addr}{od:Option Obj}{K:W.Frag}{prog:Program}{w:World}{E:MC}
def IA (X:K.In s.heap)(I:InstAt s.heap l (instObj C dx) C od)(h1:findIn K (.ref C) "__eq__"=some (some (.builtin "object.__eq__"))) (h3:subIn K (.ref C) (.type "object")=some true) (h:Q (some (.bool true)) s):wpAny (model prog w) A (callSpecialIfBound? (.ref l) "__eq__" [.ref l]) Q E s:=by
 simp only[callSpecialIfBound?,bindSpecialIfBound?];refine bd (ad (ad (ad (I.type.here ((looks_findIn X h1).here ?_)))));simp only[PySem.F.cmp_object.eq.bind];have fin:wpAny (model prog w) A (call (.builtin "object.__eq__") ([.ref l]++[.ref l]) >>= λv=>pure (some v)) Q E s:=by
  refine ad (wpAny_call (codeAny_call_builtin PySem.F.cmp_object.eq.plain PySem.F.cmpEntry_eq ?_));simp only[checkBuiltinCall,PySem.F.cmpKind_eq,PySem.F.cmpSplit_eq];refine ad (ad (I.type.here ((looks_subIn X h3).here ?_)));rw[if_neg (by simp)];have ha:=PySem.F.cmpArgs_eq (.ref l) (.ref l);have h0:(match Manifest.signature? "object.__eq__" with|some sig=>Bind.checkArgs "object.__eq__" sig { pos:=[Value.ref l]++[Value.ref l] }|x=>pure ())=pure ():=ha;refine wpAny_of_eq h0 ?_;exact objEq_entry_same (am h)
 refine ad (wpAny_askSetting (wpAny_ite ?_))
 split
 .exact ad (am (am fin))
 .exact wpAny_tryCatch (ad (am (am fin)))
def IF (X:K.In s.heap)(I:InstAt s.heap l (instObj C dx) C od)(h1:findIn K (.ref C) "__eq__"=some (some (.builtin "object.__eq__"))) (h2:findIn K (.ref C) "__ne__"=some (some (.builtin "object.__ne__"))) (h3:subIn K (.ref C) (.type "object")=some true) (hu:A.units+2<cLine) (h:Q (some (.bool false)) s):wpAny (model prog w) A (callSpecialIfBound? (.ref l) "__ne__" [.ref l]) Q E s:=by
 simp only[callSpecialIfBound?,bindSpecialIfBound?];refine bd (ad (ad (ad (I.type.here ((looks_findIn X h2).here ?_)))));simp only[PySem.F.cmp_object.ne.bind];have fin:wpAny (model prog w) A (call (.builtin "object.__ne__") ([.ref l]++[.ref l]) >>= λv=>pure (some v)) Q E s:=by
  refine ad (wpAny_call (codeAny_call_builtin PySem.F.cmp_object.ne.plain PySem.F.cmpEntry_ne ?_));simp only[checkBuiltinCall,PySem.F.cmpKind_ne,PySem.F.cmpSplit_ne];refine ad (ad (I.type.here ((looks_subIn X h3).here ?_)));rw[if_neg (by simp)];have ha:=PySem.F.cmpArgs_ne (.ref l) (.ref l);have h0:(match Manifest.signature? "object.__ne__" with|some sig=>Bind.checkArgs "object.__ne__" sig { pos:=[Value.ref l]++[Value.ref l] }|x=>pure ())=pure ():=ha;refine wpAny_of_eq h0 ?_;unfold Builtin.«object.__ne__»;show wpAny _ _ (pure (Value.ref l,[Value.ref l]) >>= _) _ _ _;refine ad (am ?_);refine ad (wpAny_cRoomFor (show A.units+1<cLine by omega) ?_);refine ad (IA X I h1 h3 ?_);refine ad (bi ?_);exact am (am h)
 refine ad (wpAny_askSetting (wpAny_ite ?_))
 split
 .exact ad (am (am fin))
 .exact wpAny_tryCatch (ad (am (am fin)))
def vh (X:K.In s.heap)(I:InstAt s.heap l (instObj C dx) C od)(hC:tF K C=true)(hu:A.units+3<cLine):SeqAt.RcNeAt A s (.ref l) (.ref l) false:=λprog w E Q h=>by
 unfold tF y8 at hC;simp only[nl,beq_iff_eq]at hC;obtain⟨h0,⟨h1,h2⟩,h3⟩:=hC;simp only[richCompare,PySem.cmpInfo_NotEq]
 try with_reducible refine bd ?_
 refine ad (wpAny_cRoomFor nofun ?_);show wpAny _ _ (typeOf (Value.ref l) >>= _) _ _ _;refine ad (I.type.here (ad (I.type.here ?_)));rw[if_neg (by simp)];refine ad (am ?_);rw[if_neg (by simp)];refine ad ?_;simp only[tryCompare];refine ad (IF X I h1 h0 h3 nofun ?_);exact am (am h)
def Je (d:Addr)(hd:(d ==sysModules)=false)(dd:Option Addr)(ep:Nat)(sl:Array (Option Value)):Meets (Builtin.«dict.__ne__» ⟨[.ref d,.ref d],[]⟩) (λ_ R s=>s.heap.get? d=some ⟨.type "dict",dd,.dict #[] ep,sl⟩/\R (.ok (.ret (.bool false))) s):=by
 intro prog w A R s hs;obtain⟨h,g,dp,tt,os⟩:=s;obtain⟨ho,q⟩:=hs;have hT:(⟨h,g,dp,tt,os⟩:Shared).TypeIs (.ref d) "dict":=⟨_,ho,rfl⟩;unfold Builtin.«dict.__ne__»
 k_delta "equality"
 unfold Builtin.Dict.dictSlotArgs;refine ad (ad (wpAny_notOrdered_dict hT ?_));show wpAny _ _ (pure (Value.ref d,[Value.ref d]) >>= _) _ _ _;refine ad (am (am ?_));have hi:=PySem.F.kt_sub_dict;show wpAny _ _ (isInstance (.ref d) (.type "dict") >>= _) _ _ _;unfold Builtin.Dict.samePairs;simp only[Std.Legacy.Range.forIn_eq_forIn_range']
 repeat(any_goals first|assumption|wp_step)
def BK (hd:(d ==sysModules)=false){ep:Nat}(ho:s.heap.get? d=some ⟨.type "dict",dd,.dict #[] ep,sl⟩) (hu:A.units<cLine):SeqAt.RcNeAt A s (.ref d) (.ref d) false:=λprog w E Q h=>
 richCompare_meets_room (op:=.NotEq) ⟨_,ho,rfl⟩ ⟨_,ho,rfl⟩ PySem.F.slot_dict_ne PySem.F.entry_dict_ne (PySem.F.args_dict_ne_2 _ _) (Je d hd dd ep sl) ⟨ho,show Value.bool false≠Value.notImplemented/\Q (.bool false) s from⟨(λx=>nomatch x),h⟩⟩ hu
abbrev xD (K:W.Frag)(H:Hp)(a:Addr):Prop:=(∃ xs,bc K H a xs)\/H a=some (.dK [])\/∃ C dx fs,H a=some (.ins C dx fs)/\tF K C=true
def AY {a:Addr}(I:Inv X Y U H s)(h:xD X.K H a)(hu:A.units+3<cLine):SeqAt.RcNeAt A s (.ref a) (.ref a) false:=by
 rcases h with⟨xs,h⟩|h|⟨C,dx,fs,h,hn⟩
 .obtain⟨ia,ra,pa,_⟩:=I.tuple h;have rc:=SeqAt.RcNeAt.tuples (A:=A) (e:=λ_=>true) (show s.heap.IsTuple a ia.toArray from pa) (show s.heap.IsTuple a ia.toArray from pa) nofun λj h1 h2=>SeqAt.EqAt.same _
  have e:((List.range (min ia.toArray.size ia.toArray.size)).all (λ_=>true)&&ia.toArray.size ==ia.toArray.size)=true:=by simp
  rw[e]at rc;exact rc
 .obtain⟨z,hd,vs,rel,dd⟩:=nA I.hok (.inl h);cases rel;obtain⟨⟨c,d,da,sl⟩,es,ep,ho,hx,he,_,hp,_⟩:=dd;have e0:es=#[]:=by
   cases hp':es.toList with
   |nil=>exact Array.toList_eq_nil_iff.mp hp'
   |cons a b=>rw[hp']at hp;cases hp
  subst e0;obtain rfl:da=.dict #[] ep:=he;obtain⟨rfl,_⟩:=hx;exact BK hd ho nofun
 .obtain⟨mA,o,_⟩:=ie I.hok h;obtain⟨od,i,_⟩:=o.look;exact vh I.b9 i hn hu
end
end L2
namespace L2
open PySem PySem.Spec PyProof.Rows
section
variable {X:Cx}{tg:Expr}
end
end L2
namespace L2
open PySem PySem.Spec PySem.W PyProof.Rows
open PySem.AutoSeq1 (wpAny_loadPart')
section
variable {prog:Program}{w:World}{A:Around}{E:MC}{s:Shared}
end
section
variable {X:Cx}{Y:MD}{U:St}{H:Hp}{s:Shared}
end
section
variable {prog:Program}{w:World}{A:Around}{E:MC}{s:Shared}
variable {z TI TO i1 i2 i3 l1 l2 l3:Addr}{k1 k2 k3:Nat}{tp1 tp2 tp3:Bool}{xs ys zs:Array Value}{x y v a b c f1:Value}
end
end L2
namespace L2
open PySem PySem.Spec PyProof.Rows
inductive l9 (K:W.Frag) (H:Hp):Nat->V->V->Bool->Prop where
 |flat {n:Nat}{x y:V}(fx:aE x=true) (fy:aE y=true):l9 K H n x y (ef x y)
 |same {n:Nat}(a:Addr):l9 K H (n+1) (.ref a) (.ref a) true
 |ll {n:Nat}{a b:Addr}{xs ys:List V}{e:Nat->Bool}(ha:aU K H a xs) (hb:aU K H b ys) (hl:xs.length=ys.length) (h:∀ j x y,xs[j]? =some x->ys[j]? =some y->l9 K H (n+1) x y (e j)):l9 K H (n+2) (.ref a) (.ref b) ((List.range xs.length).all e)
 |tt {n:Nat}{a b:Addr}{xs ys:List V}{e:Nat->Bool}(ha:bc K H a xs) (hb:bc K H b ys) (h:∀ j x y,xs[j]? =some x->ys[j]? =some y->l9 K H (n+1) x y (e j)):l9 K H (n+2) (.ref a) (.ref b) ((List.range (min xs.length ys.length)).all e&&xs.length ==ys.length)
variable {A:Around}
section
variable {X:Cx}{Y:MD}{s:Shared}{U:St}{H:Hp}
def yg {y x:V}{u v:Value}(ry:RelV y u)(rx:RelV x v)(fy:aE y=true)(fx:aE x=true):SeqAt.RcAt A s u v (ef y x):=by
 cases y<;>first|cases fy|skip
 all_goals (cases x<;>first|cases fx|skip)
 all_goals (first|(obtain⟨t,rfl⟩:=ry)|cases ry)
 all_goals (first|(obtain⟨t',rfl⟩:=rx)|cases rx)
 .exact SeqAt.RcAt.none_none
 .exact SeqAt.RcAt.none_bool _
 .exact SeqAt.RcAt.none_int _ _
 .exact SeqAt.RcAt.none_str _ _
 .exact SeqAt.RcAt.bool_none _
 .exact SeqAt.RcAt.bool_bool _ _
 .exact SeqAt.RcAt.bool_int _ _ _
 .exact SeqAt.RcAt.bool_str _ _ _
 .exact SeqAt.RcAt.int_none _ _
 .exact SeqAt.RcAt.int_bool _ _ _
 .exact SeqAt.RcAt.int_int _ _ _ _
 .exact SeqAt.RcAt.int_str _ _ _ _
 .exact SeqAt.RcAt.str_none _ _
 .exact SeqAt.RcAt.str_bool _ _ _
 .exact SeqAt.RcAt.str_int _ _ _ _
 .exact SeqAt.RcAt.str_str _ _ _ _
def qN {y x:V}{u v:Value}(ry:RelV y u)(rx:RelV x v)(fy:aE y=true)(fx:aE x=true):SeqAt.RcNeAt A s u v (!ef y x):=by
 cases y<;>first|cases fy|skip
 all_goals (cases x<;>first|cases fx|skip)
 all_goals (first|(obtain⟨t,rfl⟩:=ry)|cases ry)
 all_goals (first|(obtain⟨t',rfl⟩:=rx)|cases rx)
 .exact SeqAt.RcNeAt.none_none
 .exact SeqAt.RcNeAt.none_bool _
 .exact SeqAt.RcNeAt.none_int _ _
 .exact SeqAt.RcNeAt.none_str _ _
 .exact SeqAt.RcNeAt.bool_none _
 .exact SeqAt.RcNeAt.bool_bool _ _
 .exact SeqAt.RcNeAt.bool_int _ _ _
 .exact SeqAt.RcNeAt.bool_str _ _ _
 .exact SeqAt.RcNeAt.int_none _ _
 .exact SeqAt.RcNeAt.int_bool _ _ _
 .exact SeqAt.RcNeAt.int_int _ _ _ _
 .exact SeqAt.RcNeAt.int_str _ _ _ _
 .exact SeqAt.RcNeAt.str_none _ _
 .exact SeqAt.RcNeAt.str_bool _ _ _
 .exact SeqAt.RcNeAt.str_int _ _ _ _
 .exact SeqAt.RcNeAt.str_str _ _ _ _
def eqv_refl (I:Inv X Y U H s):∀ {n:Nat}{x y:V}{b:Bool},l9 X.K H n x y b->x=y->b=true:=by
 intro n x y b h
 induction h with
 | @flat n x y fx fy=>
  rintro rfl;cases x<;>first|(exact absurd fx Bool.false_ne_true)|simp[ef]
 |same a=>intro _;rfl
 | @ll n a b xs ys e ha hb hl h ih=>
  intro z;cases z;have:=I.k6 ha hb;subst this;rw[all_eq_true];intro j hj;have hj':j<xs.length:=mem_range.mp hj;exact ih j _ _ (li hj') (li hj') rfl
 | @tt n a b xs ys e ha hb h ih=>
  intro z;cases z;have:=I.iP ha hb;subst this;rw[beq_self_eq_true,Bool.and_true,Nat.min_self,all_eq_true];intro j hj;have hj':j<xs.length:=mem_range.mp hj;exact ih j _ _ (li hj') (li hj') rfl
def qd (I:Inv X Y U H s):∀ {n:Nat}{x y:V}{b:Bool},l9 X.K H n x y b->∀ {A:Around}{u v:Value},A.units+n<cLine->RelV x u->RelV y v->
  (SeqAt.EqAt A s u v b)/\(x=y\/SeqAt.RcAt A s u v b/\SeqAt.RcNeAt A s u v (!b)):=by
 intro n x y b h
 induction h with
 |flat fx fy=>intro A u v _ rx ry;exact⟨yR rx ry fx fy,.inr ⟨yg rx ry fx fy,qN rx ry fx fy⟩⟩
 |same a=>intro A u v _ rx ry;cases rx;cases ry;exact⟨SeqAt.EqAt.same _,.inl rfl⟩
 | @ll n a b xs ys e ha hb hl h ih=>
  intro A u v hu rx ry;have hall:=l9.ll ha hb hl h;cases rx;cases ry
  by_cases hab:a=b
  .subst hab;have z:=eqv_refl I hall rfl;rw[z];exact⟨SeqAt.EqAt.same _,.inl rfl⟩
  obtain⟨ia,ra,pa,_⟩:=I.list ha;obtain⟨ib,rb,pb,_⟩:=I.list hb;have e1:ia.toArray.size=xs.length:=by rw[ii,ra.length]
  have e2:ib.toArray.size=ys.length:=by rw[ii,rb.length]
  have he:∀ j (h1:j<ia.toArray.size) (h2:j<ib.toArray.size),SeqAt.EqAt A.in1 s ia.toArray[j] ib.toArray[j] (e j):=λj h1 h2=>by
   obtain⟨x1,f1,r1⟩:=kh ra h1;obtain⟨y1,f2,r2⟩:=kh rb h2;exact(ih j x1 y1 f1 f2 (by show A.units+1+(n+1)<cLine;omega) r1 r2).1
  have rc:=SeqAt.RcAt.lists (A:=A) pa.isList pb.isList (by rw[e1,e2,hl]) nofun he;have rn:=SeqAt.RcNeAt.lists (A:=A) pa.isList pb.isList (by rw[e1,e2,hl]) nofun he;rw[e1]at rc rn;exact⟨SeqAt.EqAt.of_refs hab rc,.inr ⟨rc,rn⟩⟩
 | @tt n a b xs ys e ha hb h ih=>
  intro A u v hu rx ry;have hall:=l9.tt ha hb h;cases rx;cases ry
  by_cases hab:a=b
  .subst hab;have z:=eqv_refl I hall rfl;rw[z];exact⟨SeqAt.EqAt.same _,.inl rfl⟩
  obtain⟨ia,ra,pa,_⟩:=I.tuple ha;obtain⟨ib,rb,pb,_⟩:=I.tuple hb;have e1:ia.toArray.size=xs.length:=by rw[ii,ra.length]
  have e2:ib.toArray.size=ys.length:=by rw[ii,rb.length]
  have he:∀ j (h1:j<ia.toArray.size) (h2:j<ib.toArray.size),SeqAt.EqAt A.in1 s ia.toArray[j] ib.toArray[j] (e j):=λj h1 h2=>by
   obtain⟨x1,f1,r1⟩:=kh ra h1;obtain⟨y1,f2,r2⟩:=kh rb h2;exact(ih j x1 y1 f1 f2 (by show A.units+1+(n+1)<cLine;omega) r1 r2).1
  have rc:=SeqAt.RcAt.tuples (A:=A) (show s.heap.IsTuple a ia.toArray from pa) (show s.heap.IsTuple b ib.toArray from pb) nofun he;have rn:=SeqAt.RcNeAt.tuples (A:=A) (show s.heap.IsTuple a ia.toArray from pa) (show s.heap.IsTuple b ib.toArray from pb) nofun he;rw[e1,e2]at rc rn;exact⟨SeqAt.EqAt.of_refs hab rc,.inr ⟨rc,rn⟩⟩
@[irreducible] noncomputable def d9 (K:W.Frag) (neg:Bool):R2:=λx y H Q=>∃ n b,l9 K H n x y b/\n<=100/\(aE x=true\/x≠y\/(neg=false/\∃ a,x=.ref a/\sU K H a)\/(neg=true/\∃ a,x=.ref a/\xD K H a))/\Q (.bl (if neg then !b else b)) H
def FO (hu:X.A.units+200<cLine):cR X (compareOp .Eq) (d9 X.K false):=by
 intro Y s U H x y v u Q I rx ry h;unfold d9 at h;obtain⟨n,b,e,hn,hx,q⟩:=h;rcases(qd I e (A:=X.A) nofun rx ry).2 with z|⟨z,_⟩
 .subst z;rcases hx with hx|hx
  .have z:=eqv_refl I e rfl;have r:=yg (s:=s) (A:=X.A) rx ry hx hx;have z2:=eqv_refl I (l9.flat (K:=X.K) (H:=H) (n:=0) hx hx) rfl;rw[z2]at r;rw[z]at q;exact PySem.EqBoolInt.of_rc r ⟨.bl true,H,I,rfl,q⟩
  rcases hx with hx|⟨_,a,rfl,hs⟩|⟨hx,_⟩
  .exact absurd rfl hx
  .have z:=eqv_refl I e rfl;rw[z]at q;cases rx;cases ry;exact PySem.EqBoolInt.of_rc (BR (A:=X.A) I hs nofun) ⟨.bl true,H,I,rfl,q⟩
  .cases hx
 .exact PySem.EqBoolInt.of_rc z ⟨.bl b,H,I,rfl,q⟩
def Fl (hu:X.A.units+200<cLine):cR X (compareOp .NotEq) (d9 X.K true):=by
 intro Y s U H x y v u Q I rx ry h;unfold d9 at h;obtain⟨n,b,e,hn,hx,q⟩:=h;rcases(qd I e (A:=X.A) nofun rx ry).2 with z|⟨_,z⟩
 .subst z;rcases hx with hx|hx
  .have z:=eqv_refl I e rfl;have r:=qN (s:=s) (A:=X.A) rx ry hx hx;have z2:=eqv_refl I (l9.flat (K:=X.K) (H:=H) (n:=0) hx hx) rfl;rw[z2]at r;rw[z]at q;exact PySem.EqBoolInt.of_rcne r ⟨.bl false,H,I,rfl,q⟩
  rcases hx with hx|⟨hx,_⟩|⟨_,a,rfl,hs⟩
  .exact absurd rfl hx
  .cases hx
  .have z:=eqv_refl I e rfl;rw[z]at q;cases rx;cases ry;exact PySem.EqBoolInt.of_rcne (AY (A:=X.A) I hs nofun) ⟨.bl false,H,I,rfl,q⟩
 .exact PySem.EqBoolInt.of_rcne z ⟨.bl (!b),H,I,rfl,q⟩
end
@[irreducible] noncomputable def CM (K:W.Frag) (a b:Addr) (H:Hp) (Q:VK):Prop:=(∃ xs ys,H a=some (.lst xs)/\H b=some (.lst ys)/\xs.length+ys.length<=100000/\∀ p,H p=none->Q (.ref p) (upd H p (.lst (xs++ys))))\/False
@[irreducible] noncomputable def CN (K:W.Frag) (a:Addr) (k:Int) (H:Hp) (Q:VK):Prop:=(∃ xs,H a=some (.lst xs)/\ -1000<=k/\k<=1000/\xs.length<=1000/\∀ p,H p=none->Q (.ref p) (upd H p (.lst (sK k.toNat xs).flatten)))\/False
abbrev EU (K:W.Frag):R2:=λx y H Q=>match x,y with
 | .int i,.int j=>Q (.int (i+j)) H
 | .str a,.str b=>a.length+b.length<=100000/\Q (.str (a++b)) H
 | .ref a,.ref b=>CM K a b H Q
 |_,_=>False
abbrev Gj:R2:=λx y H Q=>match x,y with
 | .int i,.int j=>Q (.int (i-j)) H
 |_,_=>False
abbrev E4 (K:W.Frag):R2:=λx y H Q=>match x,y with
 | .int i,.int j=>qz i j/\Q (.int (i*j)) H
 | .ref a,.int k=>CN K a k H Q
 |_,_=>False
abbrev F7:R2:=λx y H Q=>match x,y with
 | .int i,.int j=>(0<j/\j<1073741824)/\Q (.int (i / j)) H
 |_,_=>False
abbrev GB:R2:=λx y H Q=>match x,y with
 | .int i,.int j=>0<j/\Q (.int (i % j)) H
 |_,_=>False
abbrev FG:R2:=λx y H Q=>match x,y with
 | .int i,.int j=>BX i j/\Q (.int (i ^ j.toNat)) H
 |_,_=>False
abbrev EG (K:W.Frag)(op:Operator):R2:=match op with
 | .Add=>EU K
 | .Sub=>Gj
 | .Mult=>E4 K
 | .FloorDiv=>F7
 | .Mod=>GB
 | .Pow=>FG
 |_=>λ_ _ _ _=>False
section
variable {X:Cx}
def mU {n:Nat}(h:n<=1000000):n<=bn:=by rw[sizeLine_eq];omega
def Gi (op:Operator):cR X (binaryOp op) (EG X.K op):=by
 intro Y s U H x y v u Q I rx ry h;cases op with
 |Add=>
  have h':EU X.K x y H Q:=h;unfold EU at h'
  split at h'
  .exact FQ Y s U H _ _ v u Q I rx ry ⟨_,_,rfl,rfl,h'⟩
  .exact si Y s U H _ _ v u Q I rx ry ⟨_,_,rfl,rfl,mU nofun,h'.2⟩
  .unfold CM at h';rcases h' with⟨xs,ys,ha,hb,hz,q⟩|h'
   .exact Gu Y s U H _ _ v u Q I rx ry ⟨_,_,xs,ys,rfl,rfl,ha,hb,mU nofun,q⟩
   .exact h'.elim
  .exact h'.elim
 |Sub=>
  have h':Gj x y H Q:=h;unfold Gj at h'
  split at h'
  .exact Fn Y s U H _ _ v u Q I rx ry ⟨_,_,rfl,rfl,h'⟩
  .exact h'.elim
 |Mult=>
  have h':E4 X.K x y H Q:=h;unfold E4 at h'
  split at h'
  .exact GN Y s U H _ _ v u Q I rx ry ⟨_,_,rfl,rfl,h'.1,h'.2⟩
  .rename_i k;unfold CN at h';rcases h' with⟨xs,ha,h1,h2,hz,q⟩|h'
   .refine Gb Y s U H _ _ v u Q I rx ry ⟨_,k,xs,rfl,rfl,ha,by omega,by omega,mU ?_,q⟩;have:xs.length*k.toNat<=1000*1000:=Nat.mul_le_mul hz nofun
    omega
   .exact h'.elim
  .exact h'.elim
 |FloorDiv=>
  have h':F7 x y H Q:=h;unfold F7 at h'
  split at h'
  .exact Cy Y s U H _ _ v u Q I rx ry ⟨_,_,rfl,rfl,h'.1,h'.2⟩
  .exact h'.elim
 |Mod=>
  have h':GB x y H Q:=h;unfold GB at h'
  split at h'
  .exact Ee Y s U H _ _ v u Q I rx ry ⟨_,_,rfl,rfl,h'.1,h'.2⟩
  .exact h'.elim
 |Pow=>
  have h':FG x y H Q:=h;unfold FG at h'
  split at h'
  .exact Ek Y s U H _ _ v u Q I rx ry ⟨_,_,rfl,rfl,h'.1,h'.2⟩
  .exact h'.elim
 |_=>exact(show False from h).elim
abbrev vE (f:Int->Int->Bool):R2:=λx y H Q=>match x,y with
 | .int i,.int j=>Q (.bl (f i j)) H
 |_,_=>False
@[irreducible] noncomputable def Jn (K:W.Frag) (neg:Bool):R2:=λx y H Q=>match y with
 | .ref p=>(∃ xs,(aU K H p xs\/bc K H p xs)/\aE x=true/\xs.all aE=true/\Q (.bl (if neg then !GX x xs else GX x xs)) H)\/False\/False
 | .str j=>False
 |_=>False
@[irreducible] noncomputable def Aq (neg:Bool):R2:=λx y H Q=>match y with
 | .non=>Q (.bl (if neg then !decide (x=.non) else decide (x=.non))) H
 | .bl b=>False
 | .ref b=>False
 |_=>False
abbrev k9 (K:W.Frag)(op:CmpOp):R2:=match op with
 | .Eq=>d9 K false
 | .NotEq=>d9 K true
 | .Lt=>vE λi j=>decide (i<j)
 | .LtE=>vE λi j=>decide (i<=j)
 | .Gt=>vE λi j=>decide (j<i)
 | .GtE=>vE λi j=>decide (j<=i)
 | .In=>Jn K false
 | .NotIn=>λ_ _ _ _=>False
 | .Is=>Aq false
 | .IsNot=>Aq true
def nE {f:Int->Int->Bool}{op:CmpOp}(ho:cR X (compareOp op) (AZ λi j=>.bl (f i j))):cR X (compareOp op) (vE f):=by
 intro Y s U H x y v u Q I rx ry h;unfold vE at h
 split at h
 .exact ho Y s U H _ _ v u Q I rx ry ⟨_,_,rfl,rfl,h⟩
 .exact h.elim
def FD (hu:X.A.units+200<cLine)(op:CmpOp):cR X (compareOp op) (k9 X.K op):=by
 cases op with
 |Eq=>exact FO hu
 |NotEq=>exact Fl hu
 |Lt=>exact nE Hn
 |LtE=>exact nE Hm
 |Gt=>exact nE Hv
 |GtE=>exact nE IJ
 |In=>
  intro Y s U H x y v u Q I rx ry h;have h':Jn X.K false x y H Q:=h;unfold Jn at h'
  split at h'
  .rcases h' with⟨xs,hx,f1,f2,q⟩|g|z
   .exact vL Y s U H _ _ v u Q I rx ry ⟨_,xs,rfl,hx,f1,f2,q⟩
   .exact g.elim
   .exact z.elim
  .exact h'.elim
  .exact h'.elim
 |NotIn=>exact λ_ _ _ _ _ _ _ _ _ _ _ _ h=>(show False from h).elim
 |Is=>
  intro Y s U H x y v u Q I rx ry h;have h':Aq false x y H Q:=h;unfold Aq at h'
  split at h'
  .exact Eh Y s U H _ _ v u Q I rx ry ⟨rfl,h'⟩
  .exact h'.elim
  .exact h'.elim
  .exact h'.elim
 |IsNot=>
  intro Y s U H x y v u Q I rx ry h;have h':Aq true x y H Q:=h;unfold Aq at h'
  split at h'
  .exact CD Y s U H _ _ v u Q I rx ry ⟨rfl,h'⟩
  .exact h'.elim
  .exact h'.elim
  .exact h'.elim
@[irreducible] noncomputable def qF (K:W.Frag):R2:=λx y H Q=>match x with
 | .ref p=>(∃ xs i v,y=.int i/\(aU K H p xs\/bc K H p xs)/\nZ xs i=some v/\Q v H)\/∃ v,El H p y (some v)/\Q v H
 | .str z=>False
 |_=>False
def tS (hu:X.A.units+200<cLine):HX X (qF X.K):=by
 intro value slice Y s U H x y v u Q I rx ry h hs;unfold qF at h
 split at h
 .rcases h with⟨xs,i,w,rfl,hx,ha,q⟩|⟨w,g,q⟩
  .rcases hx with hx|hx
   .exact Bu value slice Y s U H _ _ v u Q I rx ry ⟨_,xs,i,w,rfl,rfl,hx,ha,q⟩ hs
   .exact Gf value slice Y s U H _ _ v u Q I rx ry ⟨_,xs,i,w,rfl,rfl,hx,ha,q⟩ hs
  .cases rx;exact tail_any (rq I g) PySem.F.slot_dict_getitem.lookup (wb nofun I g ry λw' s3 I3 rw'=>⟨w,H,I3,rw',q⟩) hs
 .exact h.elim
 .exact h.elim
@[irreducible] noncomputable def gF:vU:=λo i v H Q=>match o with
 | .ref p=>(∃ xs k j,i=.int k/\H p=some (.lst xs)/\Ad xs.length k=some j/\Q (upd H p (.lst (xs.set j v))))\/∃ H4,Iu H p i v H4/\Q H4
 |_=>False
def vd (hu:X.A.units+200<cLine):AR X gF:=by
 intro Y s U H o i v ov iv u Q I ro ri rv h;unfold gF at h
 split at h
 .rcases h with⟨xs,k,j,rfl,hp,hj,q⟩|⟨H4,g,q⟩
  .exact set_list Y s U H _ _ v ov iv u Q I ro ri rv ⟨_,xs,k,j,rfl,rfl,hp,hj,q⟩
  .cases ro;exact wx nofun I g ri rv λs4 I4=>⟨H4,I4,q⟩
 .exact h.elim
@[irreducible] noncomputable def DR (K:W.Frag):V->Option Int->Option Int->Hp->VK->Prop:=λx lo hi H Q=>match x with
 | .ref a=>(∃ xs,aU K H a xs/\∀ p,H p=none->Q (.ref p) (upd H p (.lst (gk xs lo hi))))\/False
 | .str z=>False
 |_=>False
def EY:JN X (DR X.K):=by
 intro Y s U H x v vl vu lo hi sl Q I rx hs pl pu h;unfold DR at h
 split at h
 .rcases h with⟨xs,hx,q⟩|h
  .exact Di Y s U H _ v vl vu lo hi sl Q I rx hs pl pu ⟨_,xs,rfl,hx,q⟩
  .exact h.elim
 .exact h.elim
 .exact h.elim
end
end L2
namespace L3
open PySem L2
set_option genSizeOf false
inductive Bf where
 |len|list|tuple|int|str|min|max|abs|all|any|dict|sum
 deriving DecidableEq
inductive Lm where
 |append|extend|insert|pop|clear|reverse|count
 deriving DecidableEq
inductive Cl where
 |own (c:Nat)|ty (n:String)
mutual
inductive Ex where
 |v (i:Nat)|int (i:Int)|bl (b:Bool)|non|str (x:Str)|gl (x:Str)
 |bin (op:Operator) (a b:Ex)|neg (a:Ex)|not (a:Ex)|and (a b:Ex)|or (a b:Ex)
 |cmp (op:CmpOp) (a b:Ex)|cmp2 (o1 o2:CmpOp) (a b c:Ex)|cmp3 (o1 o2 o3:CmpOp) (a b c d:Ex)
 |ife (c:Tx) (a b:Ex)|tup (es:gc)|lst (es:gc)|ix (a i:Ex)|sl (a:Ex) (lo hi:JQ)
 |fld (a:Ex) (f:Str)|call (f:Nat) (es:gc)|meth (a:Ex) (m:Str) (es:gc)|lm (m:Lm) (a:Ex) (es:gc)|make (c:Nat) (es:gc)|bini (es:gc)|cini (c:Nat) (es:gc)
 |bf (b:Bf) (es:gc)|isi (a:Ex) (c:Cl)|lc (elt:Ex) (sel:List Nat) (it:DF)|lci (elt:Ex) (c:Tx) (sel:List Nat) (it:DF)|lct (elt:Ex) (n:Nat) (sel:List Nat) (it:DF)|lcu (elt:Ex) (c:Tx) (n:Nat) (sel:List Nat) (it:DF)|dnew|up (a:Ex)|dzip (a b:Ex)|isiT (a:Ex) (cs:List Nat)|vals (tp:Bool) (a:Ex)|uh (c:Nat)|disp (ks:List Str) (es:gc)|lix (a b:Ex)|dget (a k d:Ex)
inductive Tx where
 |not (a:Tx)|and (a b:Tx)|or (a b:Tx)|cmp (op:CmpOp) (a b:Ex)|cmp2 (o1 o2:CmpOp) (a b c:Ex)|val (e:Ex)
inductive gc where
 |nil|cons (e:Ex) (es:gc)
inductive JQ where
 |no|yes (e:Ex)
inductive DF where
 |rng1 (a:Ex)|rng2 (a b:Ex)|rng3 (a b c:Ex)|enm (a:Ex)|enf (a:Ex)|seq (a:Ex)|zip (a b:Ex)|zip3 (a b c:Ex)
end
inductive JJ where
 |nm (i:Nat)|tp (is:List Nat)|nt (i:Nat) (is:List Nat)
mutual
inductive Sx where
 |asg (i:Nat) (e:Ex)|asgT (is:List Nat) (e:Ex)|par (is:List Nat) (es:gc)|sub (o i v:Ex)|fld (o:Ex) (f:Str) (v:Ex)
 |aug (i:Nat) (op:Operator) (e:Ex)|augS (o i:Ex) (op:Operator) (e:Ex)
 |ret (e:Ex)|retN|pass|brk|cont|expr (e:Ex)
 |ife (c:Tx) (a b:lY)|whl (c:Tx) (b:lY)|for (t:JJ) (it:DF) (b:lY)|rais (e:Ex)|tryx (b:lY) (hs:Ay)
inductive lY where
 |nil|cons (s:Sx) (r:lY)
inductive Ay where
 |nil|cons (c:Nat) (i:Nat) (b:lY) (hs:Ay)
end
structure aq where
 ps:List Str
 N:List Str
 dfl:List V
 body:lY
/-- what of the text never changes. gfn,gcl:the global names of defs and classes,by number;gbl:built-in names that are not shadowed;gbi:classes of exceptions whose __init__ is the built-in one;na:class and name that no class of it has;
  me:class,name,def;ini:class,its __init__;oc,xc:plain classes,classes of exceptions;sub,subT:isinstance -/
structure Tab where
 fns:List aq
 gfn:List (Str×Nat)
 gcl:List (Str×Nat)
 gbl:List Str
 gbi:List Str
 na:List (Nat×Str)
 me:List ((Nat×Str)×Nat)
 ini:List (Nat×Nat)
 ini0:List Nat
 inip:List Nat
 oc:List Nat
 xc:List Nat
 sub:List ((Nat×Nat)×Bool)
 subT:List ((Nat×String)×Bool)
 subB:List ((String×String)×Bool)
 subO:List ((String×Nat)×Bool)
 cin:List (Nat×Nat):=[]
structure Rt where
 K:W.Frag
 fad:Nat->Addr
 cad:Nat->Addr
 gl:Str->Option V
structure Gx where
 T:Tab
 R:Rt
 Ψ:Nat->Sp
 cm:Bool
@[irreducible] noncomputable def i7 (c:Bool) (A B:Prop):Prop:=match c with
 |true=>A
 |false=>B
def c7 (c:Bool)(A B:Prop):i7 c A B=(if c=true then A else B):=by unfold i7;cases c<;>rfl
abbrev FN (K:W.Frag)(x:V)(H:Hp)(Q:Bool->Hp->Prop):Prop:=match x with
 | .bl k=>Q k H
 |y=>∃ k,AD K y H k/\Q k H
abbrev tyName:V->Hp->Option String
 | .non,_=>some "NoneType"
 | .bl _,_=>some "bool"
 | .int _,_=>some "int"
 | .str _,_=>some "str"
 | .ref a,H=>match H a with
  |some (.lst _)=>some "list"
  |some (.tup _)=>some "tuple"
  |some (.dK _)=>some "dict"
  |_=>none
 |_,_=>none
@[irreducible] noncomputable def lS (G:Gx) (b:Bf) (vs:List V) (H:Hp) (Q:VK):Prop:=match b with
 | .len=>∃ x n,vs=[x]/\II G.R.K x H n/\Q (.int n) H
 | .list=>∃ p ys,vs=[.ref p]/\(aU G.R.K H p ys\/bc G.R.K H p ys)/\∀ l,H l=none->Q (.ref l) (upd H l (.lst ys))
 | .tuple=>∃ p ys,vs=[.ref p]/\((aU G.R.K H p ys/\∀ l,H l=none->Q (.ref l) (upd H l (.tup ys)))\/(bc G.R.K H p ys/\Q (.ref p) H))
 | .int=>(∃ i,vs=[.int i]/\Q (.int i) H)\/∃ k,vs=[.bl k]/\Q (.int (if k then 1 else 0)) H
 | .str=>(∃ i,vs=[.int i]/\i.natAbs.log2<1920/\Q (.str (toString i)) H)\/∃ z,vs=[.str z]/\Q (.str z) H
 | .min=>G.cm=true/\((∃ i j,vs=[.int i,.int j]/\Q (.int (if j<i then j else i)) H)\/False)
 | .max=>G.cm=true/\((∃ i j,vs=[.int i,.int j]/\Q (.int (if j>i then j else i)) H)\/False)
 | .abs=>False
 | .all=>G.cm=true/\∃ p,∃ bs:List Bool,vs=[.ref p]/\aU G.R.K H p (bs.map V.bl)/\Q (.bl (bs.all id)) H
 | .any=>False
 | .dict=>∃ p kvs,vs=[.ref p]/\H p=some (.dK kvs)/\∀ l,H l=none->Q (.ref l) (upd H l (.dK kvs))
 | .sum=>False
@[irreducible] noncomputable def EF (m:Lm) (p:Addr) (xs:List V) (vs:List V) (H:Hp) (Q:VK):Prop:=match m with
 | .append=>∃ y,vs=[y]/\xs.length<=10000/\Q .non (upd H p (.lst (xs++[y])))
 | .extend=>∃ b zs,vs=[.ref b]/\H b=some (.lst zs)/\xs.length+zs.length<=10000/\Q .non (upd H p (.lst (xs++zs)))
 | .insert=>∃ i y,vs=[.int i,y]/\0<=i/\i<=xs.length/\xs.length<=10000/\Q .non (upd H p (.lst (xs.take i.toNat++y::xs.drop i.toNat)))
 | .pop=>False
 | .clear=>False
 | .reverse=>False
 | .count=>False
abbrev dflt (G:Gx)(f n:Nat):List V:=match G.T.fns[f]? with
 |some d=>d.dfl.drop (n+d.dfl.length-d.ps.length)
 |none=>[]
abbrev gc.len:gc->Nat
 | .nil=>0
 | .cons _ es=>es.len+1
abbrev yF (G:Gx)(H:Hp)(a:Addr)(i:Nat):Prop:=(G.T.oc.contains i=true/\∃ dx fs,H a=some (.ins (G.R.cad i) dx fs))\/(G.T.xc.contains i=true/\∃ dx fs fr,H a=some (.exc (G.R.cad i) dx fs fr))
@[irreducible] noncomputable def mf (G:Gx) (c:Cl) (x:V) (H:Hp) (Q:VK):Prop:=match c with
 | .ty n=>(∃ t b,tyName x H=some t/\G.T.subB.lookup (t,n)=some b/\Q (.bl b) H)\/∃ a i b,x=.ref a/\yF G H a i/\G.T.subT.lookup (i,n)=some b/\Q (.bl b) H
 | .own j=>(∃ t b,tyName x H=some t/\G.T.subO.lookup (t,j)=some b/\Q (.bl b) H)\/∃ a i b,x=.ref a/\yF G H a i/\G.T.sub.lookup (i,j)=some b/\Q (.bl b) H
@[irreducible] noncomputable def sx (G:Gx) (f:Str) (x:V) (H:Hp) (Q:VK):Prop:=∃ a i fs v,x=.ref a/\((G.T.oc.contains i=true/\∃ dx,H a=some (.ins (G.R.cad i) dx fs))\/(G.T.xc.contains i=true/\∃ dx fr,H a=some (.exc (G.R.cad i) (some dx) fs fr)))/\
 G.T.na.contains (i,f)=true/\fs.lookup f=some v/\Q v H
@[irreducible] noncomputable def Bt (G:Gx) (f:Str) (x y:V) (H:Hp) (Q:Hp->Prop):Prop:=∃ a i,x=.ref a/\G.T.na.contains (i,f)=true/\
 ((∃ dx fs,G.T.oc.contains i=true/\H a=some (.ins (G.R.cad i) dx fs)/\fs.length<1000/\Q (upd H a (.ins (G.R.cad i) dx (cS f y fs))))\/
  (∃ d fs fr,G.T.xc.contains i=true/\H a=some (.exc (G.R.cad i) (some d) fs fr)/\fs.length<1000/\Q (upd H a (.exc (G.R.cad i) (some d) (cS f y fs) fr)))\/
  (∃ fr,G.T.xc.contains i=true/\H a=some (.exc (G.R.cad i) none [] fr)/\∀ d,H d=none->Q (upd (upd H d (.own a)) a (.exc (G.R.cad i) (some d) [(f,y)] fr))))
abbrev Kz (op:Operator)(x y:V)(H:Hp)(Q:VK):Prop:=match op,x,y with
 | .Add,.int i,.int j=>Q (.int (i+j)) H
 | .Sub,.int i,.int j=>Q (.int (i-j)) H
 |_,_,_=>False
@[irreducible] noncomputable def zV (K:W.Frag) (x y:V) (H:Hp) (Q:VK):Prop:=match x,y with
 | .ref p,.int i=>∃ xs v,aU K H p xs/\0<=i/\xs[i.toNat]? =some v/\Q v H
 |_,_=>False
abbrev vB (U:St):List Nat->List V->St
 |i::is,x::xs=>vB (U.set i (some x)) is xs
 |_,_=>U
@[irreducible] noncomputable def Cr (xs:List V) (H:Hp) (Q:VK):Prop:=xs.length<=10000/\∀ p,H p=none->Q (.ref p) (upd H p (.lst xs))
@[irreducible] noncomputable def iG (xs:List V) (H:Hp) (Q:VK):Prop:=xs.length<=10000/\∀ p,H p=none->Q (.ref p) (upd H p (.tup xs))
@[irreducible] noncomputable def newD (H:Hp) (Q:VK):Prop:=∀ p,H p=none->Q (.ref p) (upd H p (.dK []))
@[irreducible] noncomputable def C5 (l:Addr) (H:Hp) (R:It->Hp->Prop):Prop:=(∃ xs,H l=some (.lst xs))/\R (Ho l) H
@[irreducible] noncomputable def rX (K:W.Frag) (p:Addr) (H:Hp) (R:It->Hp->Prop):Prop:=((∃ xs,aU K H p xs)/\R (GU K p) H)\/((∃ xs,bc K H p xs)/\R (Hr K p) H)
@[irreducible] noncomputable def BU (K:W.Frag) (x y:V) (H:Hp) (R:It->Hp->Prop):Prop:=Jj K x y H R
@[irreducible] noncomputable def yO (C:Addr) (H:Hp) (Q:VK):Prop:=∀ x dx,H x=none->H dx=none->dx≠x->Q (.ref x) (upd (upd H dx (.own x)) x (.ins C dx []))
@[irreducible] noncomputable def Ic (K:W.Frag) (x y:V) (H:Hp) (Q:VK):Prop:=Lw K x y H Q
@[irreducible] noncomputable def zS (te:TE) (J:It) (σ₀:St) (H1:Hp) (Q:VK):Prop:=LC te J σ₀ H1 Q
def w9: @zS= @LC:=by
 funext te J U H Q
 unfold zS
 rfl
@[irreducible] noncomputable def Kh (tc:TT) (te:TE) (J:It) (σ₀:St) (H1:Hp) (Q:VK):Prop:=LCg (iq 0) tc te J σ₀ H1 Q
def Ec: @Kh= @LCg (iq 0):=by
 funext tc te J U H Q
 unfold Kh
 rfl
abbrev gl (is:List Nat):A7:=λvs U H Q=>vs.length=is.length/\Q (vB U is vs) H
@[irreducible] noncomputable def LCt (K:W.Frag) (n:Nat) (te:TE) (J:It) (σ₀:St) (H1:Hp) (Q:VK):Prop:=LCg (Dc K n (gl (List.range n))) yes te J σ₀ H1 Q
def An {K:W.Frag}{n:Nat}:LCt K n=LCg (Dc K n (gl (List.range n))) yes:=by
 funext te J U H Q
 unfold LCt
 rfl
abbrev G2:List Str->List V->List (Key×V)
 |k::ks,x::xs=>(.inr k,x)::G2 ks xs
 |_,_=>[]
@[irreducible] noncomputable def t7 (ks:List Str) (p:Addr) (xs:List V) (H:Hp) (Q:VK):Prop:=H p=some (.dK [])/\Q (.ref p) (upd H p (.dK (i4 [] (G2 ks xs))))
mutual
noncomputable def wE (G:Gx):Ex->St->Hp->VK->XK->Prop
 | .v i,U,H,Q,_=>match U[i]? with
  |some (some x)=>Q x H
  |_=>False
 | .int i,_,H,Q,_=>Q (.int i) H
 | .bl b,_,H,Q,_=>Q (.bl b) H
 | .non,_,H,Q,_=>Q .non H
 | .str x,_,H,Q,_=>Q (.str x) H
 | .gl x,_,H,Q,_=>match G.R.gl x with
  |some v=>Q v H
  |none=>False
 | .bin op a b,U,H,Q,E=>wE G a U H (λx H1=>wE G b U H1 (λy H2=>EG G.R.K op x y H2 Q) E) E
 | .neg a,U,H,Q,E=>wE G a U H (λx H1=>match x with| .int i=>Q (.int (-i)) H1|_=>False) E
 | .not a,U,H,Q,E=>wE G a U H (λx H1=>match x with| .bl c=>Q (.bl (!c)) H1|_=>False) E
 | .and a b,U,H,Q,E=>wE G a U H (λx H1=>match x with| .bl c=>i7 c (wE G b U H1 Q E) (Q (.bl false) H1)|_=>False) E
 | .or a b,U,H,Q,E=>wE G a U H (λx H1=>match x with| .bl c=>i7 c (Q (.bl true) H1) (wE G b U H1 Q E)|_=>False) E
 | .cmp op a b,U,H,Q,E=>wE G a U H (λx H1=>wE G b U H1 (λy H2=>k9 G.R.K op x y H2 Q) E) E
 | .cmp2 o1 o2 a b c,U,H,Q,E=>wE G a U H (λx H1=>wE G b U H1 (λy H2=>k9 G.R.K o1 x y H2 λz H3=>match z with| .bl k=>i7 k (wE G c U H3 (λw H4=>k9 G.R.K o2 y w H4 Q) E) (Q (.bl false) H3)|_=>False) E) E
 | .cmp3 o1 o2 o3 a b c d,U,H,Q,E=>wE G a U H (λx H1=>wE G b U H1 (λy H2=>k9 G.R.K o1 x y H2 λz H3=>match z with| .bl k=>i7 k (wE G c U H3 (λw H4=>k9 G.R.K o2 y w H4 λz' H5=>match z' with| .bl k'=>i7 k' (wE G d U H5 (λw2 H6=>k9 G.R.K o3 w w2 H6 Q) E) (Q (.bl false) H5)|_=>False) E) (Q (.bl false) H3)|_=>False) E) E
 | .ife c a b,U,H,Q,E=>wT G c U H (λk H1=>i7 k (wE G a U H1 Q E) (wE G b U H1 Q E)) E
 | .tup es,U,H,Q,E=>wEs G es U H (λxs H1=>iG xs H1 Q) E
 | .lst es,U,H,Q,E=>wEs G es U H (λxs H1=>Cr xs H1 Q) E
 | .ix a i,U,H,Q,E=>wE G a U H (λx H1=>wE G i U H1 (λy H2=>qF G.R.K x y H2 Q) E) E
 | .sl a lo hi,U,H,Q,E=>wE G a U H (λx H1=>wO G lo U H1 (λl H2=>wO G hi U H2 (λu H3=>DR G.R.K x l u H3 Q) E) E) E
 | .fld a f,U,H,Q,E=>wE G a U H (λx H1=>sx G f x H1 Q) E
 | .call f es,U,H,Q,E=>G.cm=true/\wEs G es U H (λvs H1=>G.Ψ f (vs++dflt G f es.len) H1 Q E) E
 | .meth a m es,U,H,Q,E=>G.cm=true/\wE G a U H (λx H1=>∃ p i dx fs f,x=.ref p/\H1 p=some (.ins (G.R.cad i) dx fs)/\fs.lookup m=none/\G.T.me.lookup (i,m)=some f/\
   wEs G es U H1 (λvs H2=>G.Ψ f (x::(vs++dflt G f (es.len+1))) H2 Q E) E) E
 | .lm m a es,U,H,Q,E=>wE G a U H (λx H1=>∃ p xs0,x=.ref p/\H1 p=some (.lst xs0)/\wEs G es U H1 (λvs H2=>∃ xs,H2 p=some (.lst xs)/\EF m p xs vs H2 Q) E) E
 | .make c es,U,H,Q,E=>G.cm=true/\match G.T.ini.lookup c with
  |none=>G.T.ini0.contains c=true/\wEs G es U H (λvs H1=>vs.length=1/\∀ x,H1 x=none->Q (.ref x) (upd H1 x (.exc (G.R.cad c) none [] true))) E
  |some f=>if G.T.xc.contains c=true then wEs G es U H (λvs H1=>vs.length<=1000/\∀ x,H1 x=none->G.Ψ f (.ref x::(vs++dflt G f (es.len+1))) (upd H1 x (.exc (G.R.cad c) none [] true)) (λv H2=>v=.non/\Q (.ref x) H2) E) E
   else wEs G es U H (λvs H1=>∀ x dx,H1 x=none->H1 dx=none->dx≠x->G.Ψ f (.ref x::(vs++dflt G f (es.len+1))) (upd (upd H1 dx (.own x)) x (.ins (G.R.cad c) dx [])) (λv H2=>v=.non/\Q (.ref x) H2) E) E
 | .bini es,U,H,Q,E=>wEs G es U H (λvs H1=>∃ a i dx fs fr v,vs=[.ref a,v]/\H1 a=some (.exc (G.R.cad i) dx fs fr)/\G.T.xc.contains i=true/\Q .non H1) E
 | .cini c es,U,H,Q,E=>False
 | .bf b es,U,H,Q,E=>wEs G es U H (λvs H1=>lS G b vs H1 Q) E
 | .isi a c,U,H,Q,E=>wE G a U H (λx H1=>mf G c x H1 Q) E
 | .lc elt sel it,U,H,Q,E=>G.cm=true/\wI G it U H (λJ H1=>zS (λσ' H' Q'=>wE G elt σ' H' Q' (λ_ _=>False)) J (none::hR U sel) H1 Q) E
 | .lci elt c sel it,U,H,Q,E=>False
 | .lct elt n sel it,U,H,Q,E=>G.cm=true/\wI G it U H (λJ H1=>LCt G.R.K n (λσ' H' Q'=>wE G elt σ' H' Q' (λ_ _=>False)) J (sK n none++hR U sel) H1 Q) E
 | .lcu elt c n sel it,U,H,Q,E=>False
 | .dnew,_,H,Q,_=>newD H Q
 | .up a,U,H,Q,E=>False
 | .isiT a cs,U,H,Q,E=>False
 | .uh c,_,H,Q,_=>yO (G.R.cad c) H Q
 | .disp ks es,U,H,Q,E=>∀ p,H p=none->wEs G es U (upd H p (.dK [])) (λxs H2=>t7 ks p xs H2 Q) E
 | .dget a k d,U,H,Q,E=>False
 | .lix a b,U,H,Q,E=>False
 | .vals tp a,U,H,Q,E=>False
 | .dzip a b,U,H,Q,E=>G.cm=true/\wE G a U H (λx H1=>wE G b U H1 (λy H2=>Ic G.R.K x y H2 Q) E) E
noncomputable def wT (G:Gx):Tx->St->Hp->(Bool->Hp->Prop)->XK->Prop
 | .not a,U,H,Q,E=>wT G a U H (λc H1=>Q (!c) H1) E
 | .and a b,U,H,Q,E=>wT G a U H (λc H1=>i7 c (wT G b U H1 Q E) (Q false H1)) E
 | .or a b,U,H,Q,E=>wT G a U H (λc H1=>i7 c (Q true H1) (wT G b U H1 Q E)) E
 | .cmp op a b,U,H,Q,E=>wE G a U H (λx H1=>wE G b U H1 (λy H2=>k9 G.R.K op x y H2 λz H3=>match z with| .bl k=>Q k H3|_=>False) E) E
 | .cmp2 o1 o2 a b c,U,H,Q,E=>wE G a U H (λx H1=>wE G b U H1 (λy H2=>k9 G.R.K o1 x y H2 λz H3=>match z with| .bl k=>i7 k (wE G c U H3 (λw H4=>k9 G.R.K o2 y w H4 λz H5=>match z with| .bl k=>Q k H5|_=>False) E) (Q false H3)|_=>False) E) E
 | .val e,U,H,Q,E=>wE G e U H (λx H1=>FN G.R.K x H1 Q) E
noncomputable def wEs (G:Gx):gc->St->Hp->(List V->Hp->Prop)->XK->Prop
 | .nil,_,H,Q,_=>Q [] H
 | .cons e es,U,H,Q,E=>wE G e U H (λx H1=>wEs G es U H1 (λxs H2=>Q (x::xs) H2) E) E
noncomputable def wO (G:Gx):JQ->St->Hp->(Option Int->Hp->Prop)->XK->Prop
 | .no,_,H,Q,_=>Q none H
 | .yes e,U,H,Q,E=>wE G e U H (λx H1=>match x with| .int i=>Q (some i) H1|_=>False) E
noncomputable def wI (G:Gx):DF->St->Hp->(It->Hp->Prop)->XK->Prop
 | .rng1 a,U,H,R,E=>wE G a U H (λx H1=>match x with| .int j=>-(2 ^ 62)<=j/\j<2 ^ 62/\R (DW 0 j.toNat) H1|_=>False) E
 | .rng2 a b,U,H,R,E=>wE G a U H (λx H1=>wE G b U H1 (λy H2=>match x,y with| .int i,.int j=>(-(2 ^ 62)<=i/\i<2 ^ 62/\ -(2 ^ 62)<=j/\j<2 ^ 62)/\R (DW i (j-i).toNat) H2|_,_=>False) E) E
 | .rng3 a b c,U,H,R,E=>False
 | .enm a,U,H,R,E=>wE G a U H (λx H1=>match x with| .ref l=>C5 l H1 R|_=>False) E
 | .enf a,U,H,R,E=>False
 | .seq a,U,H,R,E=>wE G a U H (λx H1=>match x with| .ref p=>rX G.R.K p H1 R|_=>False) E
 | .zip a b,U,H,R,E=>wE G a U H (λx H1=>wE G b U H1 (λy H2=>BU G.R.K x y H2 R) E) E
 | .zip3 a b c,U,H,R,E=>False
end
abbrev Ku (D:Ends)(f:St->Hp->Prop):Ends:={ D with nx:=f }
abbrev HL (D:Ends)(N:St->Hp->Prop):Ends:={ D with nx:=N,ct:=N,bk:=D.nx }
abbrev Mc (D:Ends)(i:Nat):Ends:={ nx:=λσ' H'=>D.nx (σ'.set i none) H',rt:=D.rt,bk:=λσ' H'=>D.bk (σ'.set i none) H',ct:=λσ' H'=>D.ct (σ'.set i none) H' }
abbrev wG (U:St)(t:JJ)(K:W.Frag)(x:V)(H:Hp)(Q:St->Prop):Prop:=match t with
 | .nm i=>Q (U.set i (some x))
 | .tp is=>∃ a xs,x=.ref a/\(bc K H a xs\/aU K H a xs)/\xs.length=is.length/\Q (vB U is xs)
 | .nt i is=>∃ a y b ys,x=.ref a/\bc K H a [y,.ref b]/\bc K H b ys/\ys.length=is.length/\Q (vB (U.set i (some y)) is ys)
@[irreducible] noncomputable def lW (J:It) (D:Ends) (F:(St->Hp->Prop)->V->St->Hp->Prop) (U:St) (H1:Hp):Prop:=∃ W:Nat->Nat->St->Hp->Prop,(∃ m,W 0 m U H1)/\∀ i m U H,W i m U H->
 (J.stop i H/\D.nx U H)\/(J.go i H/\∃ N:St->Hp->Prop,(∀ σ' H',N σ' H'->∃ m',m'<m/\W (i+1) m' σ' H')/\∀ x H',J.yld i H x H'->F N x U H')
mutual
noncomputable def wS:Sx->Gx->Ends->(St->XK)->St->Hp->Prop
 | .asg i e,G,D,E,U,H=>wE G e U H (λx H1=>D.nx (U.set i (some x)) H1) (E U)
 | .asgT is e,G,D,E,U,H=>G.cm=true/\wE G e U H (λx H1=>wG U (.tp is) G.R.K x H1 λσ1=>D.nx σ1 H1) (E U)
 | .par is es,G,D,E,U,H=>G.cm=true/\wEs G es U H (λxs H1=>xs.length=is.length/\D.nx (vB U is xs) H1) (E U)
 | .sub o i v,G,D,E,U,H=>wE G v U H (λy H1=>wE G o U H1 (λov H2=>wE G i U H2 (λiv H3=>gF ov iv y H3 (λH4=>D.nx U H4)) (E U)) (E U)) (E U)
 | .fld o f v,G,D,E,U,H=>wE G v U H (λy H1=>wE G o U H1 (λx H2=>Bt G f x y H2 (λH3=>D.nx U H3)) (E U)) (E U)
 | .aug i op e,G,D,E,U,H=>False
 | .augS o i op e,G,D,E,U,H=>wE G o U H (λov H1=>wE G i U H1 (λiv H2=>zV G.R.K ov iv H2 (λx H3=>wE G e U H3 (λy H4=>Kz op x y H4 (λz H5=>gF ov iv z H5 (λH6=>D.nx U H6))) (E U))) (E U)) (E U)
 | .ret e,G,D,E,U,H=>wE G e U H D.rt (E U)
 | .retN,_,D,_,_,H=>False
 | .pass,_,D,_,U,H=>False
 | .brk,_,D,_,U,H=>False
 | .cont,_,D,_,U,H=>False
 | .expr e,G,D,E,U,H=>wE G e U H (λ_ H1=>D.nx U H1) (E U)
 | .ife c a b,G,D,E,U,H=>wT G c U H (λk H1=>i7 k (wB a G D E U H1) (wB b G D E U H1)) (E U)
 | .whl c b,G,D,E,U,H=>False
 | .for t it b,G,D,E,U,H=>G.cm=true/\wI G it U H (λJ H1=>lW J D (λN x U H'=>wG U t G.R.K x H' λσ2=>wB b G (HL D N) E σ2 H') U H1) (E U)
 | .rais e,G,_,E,U,H=>G.cm=true/\wE G e U H (λv H1=>∃ a i dx fs,v=.ref a/\H1 a=some (.exc (G.R.cad i) dx fs true)/\G.T.xc.contains i=true/\E U a (upd H1 a (.exc (G.R.cad i) dx fs false))) (E U)
 | .tryx b hs,G,D,_,U,H=>G.cm=true/\wB b G D (λσ' e H'=>wH hs G D σ' e H') U H
noncomputable def wB:lY->Gx->Ends->(St->XK)->St->Hp->Prop
 | .nil,_,D,_,U,H=>D.nx U H
 | .cons s r,G,D,E,U,H=>wS s G (Ku D λσ1 H1=>wB r G D E σ1 H1) E U H
noncomputable def wH:Ay->Gx->Ends->St->Addr->Hp->Prop
 | .nil,_,_,_,_,_=>False
 | .cons c i b hs,G,D,U,e,H=>∃ j dx fs k,H e=some (.exc (G.R.cad j) dx fs false)/\G.T.xc.contains j=true/\G.T.sub.lookup (j,c)=some k/\
   i7 k (wB b { G with cm:=false } (Mc D i) (λ_ _ _=>False) (U.set i (some (.ref e))) H)
    (wH hs G D U e H)
end
end L3
namespace L3
open PySem PySem.Spec L2 PyProof.Rows
structure Sn where
 T:Tab
 sc:Scope
 N:List Str
abbrev Sn.pL (S:Sn)(x:Str):Bool:=decide (S.sc.names.lookup x=some .globalImplicit)&& !(x ==("__debug__":Str))
abbrev Sn.Jw (S:Sn)(x:Str):Bool:=(decide (S.sc.names.lookup x=some .local)||decide (S.sc.names.lookup x=some .cell)||decide (S.sc.names.lookup x=some .free))&& !(x ==("__debug__":Str))&& !(x ==("__classdict__":Str))
abbrev Sn.loc (S:Sn)(i:Nat)(x:Str):Bool:=decide (S.N[i]? =some x)&&(decide (S.sc.names.lookup x=some .local)||decide (S.sc.names.lookup x=some .cell))
abbrev sF:Expr->Bool
 | .ListComp .. | .SetComp .. | .DictComp ..=>false
 |_=>true
abbrev cH:Expr->Bool
 | .Set ..=>false
 |_=>true
abbrev fB:Expr->Bool
 | .Slice ..=>false
 |_=>true
abbrev iB:Expr->Bool
 | .Call (.Name _ _) [] [] _=>false
 |_=>true
abbrev plainT:Expr->Bool
 | .UnaryOp .Not _ _| .BoolOp .. | .IfExp .. | .Compare ..=>false
 |_=>true
abbrev yn:Bf->String
 | .len=>"len"| .list=>"list"| .tuple=>"tuple"| .int=>"int"| .str=>"str"| .min=>"min"| .max=>"max"| .abs=>"abs"| .all=>"all"| .any=>"any"| .dict=>"dict"| .sum=>"sum"
abbrev xH:Lm->String
 | .append=>"append"| .extend=>"extend"| .insert=>"insert"| .pop=>"pop"| .clear=>"clear"| .reverse=>"reverse"| .count=>"count"
abbrev j5:List String:=["int","bool","str","list","tuple","dict","ValueError"]
abbrev CO (S:Sn):Cl->Expr->Bool
 | .own c,.Name x _=>S.pL x&&decide (S.T.gcl.lookup x=some c)
 | .ty n,.Name x _=>S.pL x&&decide (x=(n:Str))&&S.T.gbl.contains x&&j5.contains n
 |_,_=>false
abbrev dQ (outer inner:Scope):Scope:=
 { inner with names:=inner.names.map λ(n,k)=>if(k ==.free&&outer.kind ==.function&&outer.names.lookup n ==some .cell) then(n,.cell) else(n,k) }
abbrev gu (S:Sn)(scope:Scope)(xs:List Str)(sel:List Nat):Bool:=
 decide (scope.kind=.function)&&decide (S.sc.kind=.function)&&scope.names.all (λy=>y.2 != .cell&&(y.2 != .local||decide (scope.names.lookup y.1=some .local))&&(y.2 != .free||(decide (S.sc.names.lookup y.1=some .cell))))&&xs.all (λx=>decide (scope.names.lookup x=some .local))&&
 sel.all (λi=>match S.N[i]? with|some y=>decide (S.sc.names.lookup y=some .cell)&&decide ((dQ S.sc scope).names.lookup y=some .cell)|none=>false)&&decide ((xs++sel.filterMap λi=>S.N[i]?).Nodup)
abbrev CV:List Expr->List Str
 | .Name x _::r=>x::CV r
 |_=>[]
abbrev wU (S:Sn):List Nat->List Expr->Bool
 | [],[]=>true
 |i::is,.Name x _::r=>decide (S.N[i]? =some x)&&decide (S.sc.names.lookup x=some .local)&&wU S is r
 |_,_=>false
abbrev oa:List Str->List (Option Expr)->Bool
 | [],[]=>true
 |k::ks,some (.Constant (.str x) _ _)::r=>decide (k=x)&&oa ks r
 |_,_=>false
mutual
noncomputable def mE (S:Sn):Ex->Expr->Bool
 | .v i,e=>match e with| .Name x _=>decide (S.N[i]? =some x)&&S.Jw x|_=>false
 | .int i,e=>match e with| .Constant y1 _ _=>(match y1 with| .int j=>decide (i=j)|_=>false)|_=>false
 | .bl i,e=>match e with| .Constant y1 _ _=>(match y1 with| .bool j=>decide (i=j)|_=>false)|_=>false
 | .non,e=>match e with| .Constant y1 _ _=>(match y1 with| .none=>true|_=>false)|_=>false
 | .str i,e=>match e with| .Constant y1 _ _=>(match y1 with| .str j=>decide (i=j)|_=>false)|_=>false
 | .gl x,e=>match e with| .Name y _=>decide (x=y)&&S.pL y|_=>false
 | .bin op a b,e=>match e with| .BinOp a' op' b' _=>decide (op=op')&&mE S a a'&&mE S b b'|_=>false
 | .neg a,e=>match e with| .UnaryOp y1 a' _=>(match y1 with| .USub=>mE S a a'|_=>false)|_=>false
 | .not a,e=>match e with| .UnaryOp y1 a' _=>(match y1 with| .Not=>mE S a a'|_=>false)|_=>false
 | .and a b,e=>match e with| .BoolOp y1 y2 p=>(match y1 with| .And=>(match y2 with|a'::b'::r=>mE S a a'&&mE S b (match r with| []=>b'|_=>.BoolOp .And (b'::r) p)|_=>false)|_=>false)|_=>false
 | .or a b,e=>match e with| .BoolOp y1 y2 p=>(match y1 with| .Or=>(match y2 with|a'::b'::r=>mE S a a'&&mE S b (match r with| []=>b'|_=>.BoolOp .Or (b'::r) p)|_=>false)|_=>false)|_=>false
 | .cmp op a b,e=>match e with| .Compare a' y1 y2 _=>(match y1 with| [op']=>(match y2 with| [b']=>decide (op=op')&&mE S a a'&&mE S b b'&&cH b'|_=>false)|_=>false)|_=>false
 | .cmp2 o1 o2 a b c,e=>match e with| .Compare a' y1 y2 _=>(match y1 with| [p1,p2]=>(match y2 with| [b',c']=>decide (o1=p1)&&decide (o2=p2)&&mE S a a'&&mE S b b'&&mE S c c'&&cH c'|_=>false)|_=>false)|_=>false
 | .cmp3 o1 o2 o3 a b c d,e=>match e with| .Compare a' y1 y2 _=>(match y1 with| [p1,p2,p3]=>(match y2 with| [b',c',d']=>decide (o1=p1)&&decide (o2=p2)&&decide (o3=p3)&&mE S a a'&&mE S b b'&&mE S c c'&&mE S d d'&&cH d'|_=>false)|_=>false)|_=>false
 | .ife c a b,e=>match e with| .IfExp c' a' b' _=>mT S c c'&&mE S a a'&&mE S b b'|_=>false
 | .tup es,e=>match e with| .Tuple es' _ _=>jz S es es'|_=>false
 | .lst es,e=>match e with| .List es' _=>jz S es es'|_=>false
 | .ix a i,e=>match e with| .Subscript a' i' _=>mE S a a'&&mE S i i'&&fB i'|_=>false
 | .sl a lo hi,e=>match e with| .Subscript a' y1 _=>(match y1 with| .Slice lo' hi' y2 _=>(match y2 with|none=>mE S a a'&&mO S lo lo'&&mO S hi hi'|_=>false)|_=>false)|_=>false
 | .fld a f,e=>match e with| .Attribute a' f' _=>mE S a a'&&decide (f=f')&&iB a'|_=>false
 | .call f es,e=>match e with| .Call y1 es' y2 _=>(match y1 with| .Name x _=>(match y2 with| []=>S.pL x&&decide (S.T.gfn.lookup x=some f)&&jz S es es'|_=>false)|_=>false)|_=>false
 | .meth a m es,e=>match e with| .Call y1 es' y2 q=>(match y1 with| .Attribute a' m' p=>(match y2 with| []=>mE S a a'&&decide (m=m')&&jz S es es'&&iB a'&&(p.endLine ==q.line)&&decide (es.len<20)|_=>false)|_=>false)|_=>false
 | .dget a k d,_=>false
 | .lix a b,_=>false
 | .lm m a es,e=>match e with| .Call y1 es' y2 q=>(match y1 with| .Attribute a' m' p=>(match y2 with| []=>mE S a a'&&decide (m'=(xH m:Str))&&jz S es es'&&iB a'&&(p.endLine ==q.line)&&decide (es.len<20)|_=>false)|_=>false)|_=>false
 | .make c es,e=>match e with| .Call y1 es' y2 _=>(match y1 with| .Name x _=>(match y2 with| []=>S.pL x&&decide (S.T.gcl.lookup x=some c)&&jz S es es'|_=>false)|_=>false)|_=>false
 | .bini es,e=>match e with| .Call y1 es' y2 q=>(match y1 with| .Attribute y3 m p=>(match y3 with| .Name x _=>(match y2 with| []=>S.pL x&&decide (m=("__init__":Str))&&S.T.gbi.contains x&&jz S es es'&&decide (es.len=2)&&(p.endLine ==q.line)|_=>false)|_=>false)|_=>false)|_=>false
 | .cini c es,_=>false
 | .bf b es,e=>match e with| .Call y1 es' y2 _=>(match y1 with| .Name x _=>(match y2 with| []=>S.pL x&&decide (x=(yn b:Str))&&S.T.gbl.contains x&&jz S es es'&&decide (0<es.len)|_=>false)|_=>false)|_=>false
 | .isi a c,e=>match e with| .Call y1 y2 y3 _=>(match y1 with| .Name x _=>(match y3 with| []=>(match y2 with| [a',c']=>S.pL x&&decide (x=("isinstance":Str))&&S.T.gbl.contains x&&mE S a a'&&CO S c c'|_=>false)|_=>false)|_=>false)|_=>false
 | .lc elt sel it,e=>match e with| .ListComp elt' y1 scope _=>(match y1 with| [y2]=>(match y2 with|⟨y3,iter,y4,y5⟩=>(match y3 with| .Name x px=>(match y4 with| []=>(match y5 with|0=>gu S scope [x] sel&&mI S it (.Name x px) iter&&mE { S with sc:=dQ S.sc scope,N:=x::sel.filterMap λi=>S.N[i]? } elt elt'&&cH iter|_=>false)|_=>false)|_=>false))|_=>false)|_=>false
 | .lci elt c sel it,_=>false
 | .lct elt n sel it,e=>match e with| .ListComp elt' y1 scope _=>(match y1 with| [y2]=>(match y2 with|⟨y3,iter,y4,y5⟩=>(match y3 with| .Tuple ts kt pt=>(match y4 with| []=>(match y5 with|0=>gu S scope (CV ts) sel&&wU { S with sc:=dQ S.sc scope,N:=CV ts++sel.filterMap λi=>S.N[i]? } (List.range n) ts&&decide ((CV ts).length=n)&&mI S it (.Tuple ts kt pt) iter&&mE { S with sc:=dQ S.sc scope,N:=CV ts++sel.filterMap λi=>S.N[i]? } elt elt'&&cH iter|_=>false)|_=>false)|_=>false))|_=>false)|_=>false
 | .lcu elt c n sel it,_=>false
 | .dnew,e=>match e with| .Dict y1 y2 _=>(match y1 with| []=>(match y2 with| []=>true|_=>false)|_=>false)|_=>false
 | .up a,_=>false
 | .isiT a cs,_=>false
 | .uh c,e=>match e with| .Call y1 y2 y3 _=>(match y1 with| .Name x _=>(match y2 with| []=>(match y3 with| []=>S.pL x&&decide (S.T.gcl.lookup x=some c)&&S.T.inip.contains c|_=>false)|_=>false)|_=>false)|_=>false
 | .disp ks es,e=>match e with| .Dict keys vals _=>oa ks keys&&jz S es vals&&decide (es.len=ks.length)&&decide (0<ks.length)&&decide (ks.length<=15)|_=>false
 | .vals tp a,_=>false
 | .dzip a b,e=>match e with| .Call y1 y2 y3 _=>(match y1 with| .Name x _=>(match y3 with| []=>(match y2 with| [y4]=>(match y4 with| .Call y5 y6 y7 _=>(match y5 with| .Name y _=>(match y7 with| []=>(match y6 with| [a',b']=>S.pL x&&decide (x=("dict":Str))&&S.T.gbl.contains x&&S.pL y&&decide (y=("zip":Str))&&S.T.gbl.contains y&&mE S a a'&&mE S b b'&&notStar a'&&notStar b'|_=>false)|_=>false)|_=>false)|_=>false)|_=>false)|_=>false)|_=>false)|_=>false
noncomputable def mT (S:Sn):Tx->Expr->Bool
 | .not a,e=>match e with| .UnaryOp y1 a' _=>(match y1 with| .Not=>mT S a a'|_=>false)|_=>false
 | .and a b,e=>match e with| .BoolOp y1 y2 p=>(match y1 with| .And=>(match y2 with|a'::b'::r=>mT S a a'&&mT S b (match r with| []=>b'|_=>.BoolOp .And (b'::r) p)|_=>false)|_=>false)|_=>false
 | .or a b,e=>match e with| .BoolOp y1 y2 p=>(match y1 with| .Or=>(match y2 with|a'::b'::r=>mT S a a'&&mT S b (match r with| []=>b'|_=>.BoolOp .Or (b'::r) p)|_=>false)|_=>false)|_=>false
 | .cmp op a b,e=>match e with| .Compare a' y1 y2 _=>(match y1 with| [op']=>(match y2 with| [b']=>decide (op=op')&&mE S a a'&&mE S b b'&&cH b'|_=>false)|_=>false)|_=>false
 | .cmp2 o1 o2 a b c,e=>match e with| .Compare a' y1 y2 _=>(match y1 with| [p1,p2]=>(match y2 with| [b',c']=>decide (o1=p1)&&decide (o2=p2)&&mE S a a'&&mE S b b'&&mE S c c'&&cH c'|_=>false)|_=>false)|_=>false
 | .val e,e'=>mE S e e'&&plainT e'
noncomputable def jz (S:Sn):gc->List Expr->Bool
 | .nil,es=>es.isEmpty
 | .cons e es,l=>match l with|e'::es'=>mE S e e'&&notStar e'&&jz S es es'| []=>false
noncomputable def mO (S:Sn):JQ->Option Expr->Bool
 | .no,o=>o.isNone
 | .yes e,o=>match o with|some e'=>mE S e e'|none=>false
noncomputable def mI (S:Sn):DF->Expr->Expr->Bool
 | .rng1 a,_,e=>match e with| .Call y1 y2 y3 _=>(match y1 with| .Name x _=>(match y3 with| []=>(match y2 with| [a']=>S.pL x&&decide (x=("range":Str))&&S.T.gbl.contains x&&mE S a a'&&notStar a'|_=>false)|_=>false)|_=>false)|_=>false
 | .rng2 a b,_,e=>match e with| .Call y1 y2 y3 _=>(match y1 with| .Name x _=>(match y3 with| []=>(match y2 with| [a',b']=>S.pL x&&decide (x=("range":Str))&&S.T.gbl.contains x&&mE S a a'&&mE S b b'&&notStar a'&&notStar b'|_=>false)|_=>false)|_=>false)|_=>false
 | .rng3 a b c,_,e=>false
 | .enm a,t,e=>match e with| .Call y1 y2 y3 _=>(match y1 with| .Name x _=>(match y3 with| []=>(match y2 with| [a']=>S.pL x&&decide (x=("enumerate":Str))&&S.T.gbl.contains x&&mE S a a'&&notStar a'&&(match t with| .Tuple ..=>true|_=>false)|_=>false)|_=>false)|_=>false)|_=>false
 | .enf a,t,e=>false
 | .seq a,_,e=>mE S a e
 | .zip a b,t,e=>match e with| .Call y1 y2 y3 _=>(match y1 with| .Name x _=>(match y3 with| []=>(match y2 with| [a',b']=>S.pL x&&decide (x=("zip":Str))&&S.T.gbl.contains x&&mE S a a'&&mE S b b'&&notStar a'&&notStar b'&&(match t with| .Tuple ..=>true|_=>false)|_=>false)|_=>false)|_=>false)|_=>false
 | .zip3 a b c,t,e=>false
end
end L3
namespace L3
open PySem PySem.Spec L2
variable {e:Expr}
def plainT_ok (h:plainT e=true)(env:Env)(whole:Sem Value):isTrue e env whole=(do let v <-whole;standAt e.pos;holding [v] (truthy v)):=by
 cases e<;>first|rfl|(cases h)|skip
 case UnaryOp op a p=>cases op<;>first|rfl|cases h
def bV (h:cH e=true)(env:Env)(x:Value):foldedSetIterable e env x=pure x:=by
 cases e<;>first|rfl|cases h
def cV (h:cH e=true)(op:CmpOp):behindInMarks op e=false:=by
 cases e<;>first|rfl|cases h
def il (h:sF e=true)(t:Option Expr)(n:Nat)(env:Env):swapsWith e t n env=pure false:=by
 cases e<;>first|rfl|cases h
variable {o:Expr}
def cZ (h:iB o=true)(a:Str)(env:Env)(whole:Sem Value):attributeBase o a env whole=whole:=by
 cases o with
 |Call f as ks p=>
  cases f<;>first|rfl|skip
  case Name x q=>
   cases as with
   |nil=>cases ks with
    |nil=>cases h
    |cons k ks=>rfl
   |cons b bs=>rfl
 |_=>rfl
variable {b:Expr}
def sA (h:fB b=true):t9 b:=by
 intro o i;cases b<;>first|rfl|cases h
variable {X:Cx}
def PE.cw {t:TE}(h:PE X e t):PE X e (λU H R=>∃ Q,t U H Q/\∀ x H1,Q x H1->R x H1):=λY s U H R I ⟨Q,q,i⟩=>
 aB (h Y s U H Q I q) λ_ _ ⟨v,H',J,r,z⟩=>⟨v,H',J,r,i _ _ z⟩
variable {t:TT}
def PT.cw (h:PT X e t):PT X e (λU H R=>∃ Q,t U H Q/\∀ x H1,Q x H1->R x H1):=λY s U H R I ⟨Q,q,i⟩=>
 aB (h Y s U H Q I q) λ_ _ ⟨H',J,z⟩=>⟨H',J,i _ _ z⟩
def PA.cw {e:List Expr}{t:TA}(h:PA X e t):PA X e (λU H R=>∃ Q,t U H Q/\∀ x H1,Q x H1->R x H1):=λpos Y s U H R I ⟨Q,q,i⟩=>
 aB (h pos Y s U H Q I q) λ_ _ ⟨v,H',J,r,z⟩=>⟨v,H',J,r,i _ _ z⟩
def PE.imp {t t':TE}(h:PE X e t)(hi:∀ U H Q,t' U H Q->t U H Q):PE X e t':=λY s U H Q I q=>h Y s U H Q I (hi _ _ _ q)
def PT.imp {t':TT}(h:PT X e t)(hi:∀ U H Q,t' U H Q->t U H Q):PT X e t':=λY s U H Q I q=>h Y s U H Q I (hi _ _ _ q)
def PS.imp {e:Stmt}{t t':TS}(h:PS X e t)(hi:∀ D U H,t' D U H->t D U H):PS X e t':=λY s U H D I q=>h Y s U H D I (hi _ _ _ q)
structure xi (P:Program) (w:World) (K:W.Frag) (mg:ME) (base:Heap) (k:Nat) (f:Addr) (d:aq) (sp:Sp):Prop where
 fact:∃ fd,dy P w K mg base (xE P w) k f fd d.ps sp/\∀ j,∃ ds,Binds K fd d.ps ds/\Vals (d.dfl.drop j) ds
 own:∀ fd oc od osl,K.lookup f=some ⟨oc,od,.func fd,osl⟩->dy P w K mg base (xE P w) k f fd d.ps sp
structure BW (K:W.Frag) (mg:ME) (T:Tab) (R:Rt):Prop where
 gfn:∀ x f,T.gfn.lookup x=some f->mg x=some (.ref (R.fad f))/\W.keepIn K (.ref (R.fad f))=true/\∃ d,T.fns[f]? =some d
 gcl:∀ x c,T.gcl.lookup x=some c->mg x=some (.ref (R.cad c))
 gbl:∀ x,T.gbl.contains x=true->mg x=none/\x≠"__name__"
 gbi:∀ x,T.gbi.contains x=true->∃ B,mg x=some (.ref B)/\Lz K B
 gl:∀ x v,R.gl x=some v->∃ u,mg x=some u/\RelV v u
 na:∀ i f,T.na.contains (i,f)=true->fm K (R.cad i) f
 me:∀ i m f,T.me.lookup (i,m)=some f->B5 K (R.cad i)/\Meth K (R.cad i) m (R.fad f)/\∃ d,T.fns[f]? =some d
 ini0:∀ c,T.ini0.contains c=true->Fs K (R.cad c)
 inip:∀ c,T.inip.contains c=true->LA K (R.cad c)
 ini:∀ c f,T.ini.lookup c=some f->(∃ d,T.fns[f]? =some d)/\if T.xc.contains c=true then JS K (R.cad c) (R.fad f) else Mk K (R.cad c) (R.fad f)
 oc:∀ c,T.oc.contains c=true->B5 K (R.cad c)/\Ke K (R.cad c)
 xc:∀ c,T.xc.contains c=true->cU K (R.cad c)/\yl K (R.cad c)
 sub:∀ i j b,T.sub.lookup (i,j)=some b->W.kitOne K (.ref (R.cad i)) (.ref (R.cad j))=some b/\(T.xc.contains i=true->W.mroIn K (R.cad i) (.ref (R.cad j))=some b/\cU K (R.cad j))
 subT:∀ i n b,T.subT.lookup (i,n)=some b->W.kitOne K (.ref (R.cad i)) (.type n)=some b
 subB:∀ t n b,T.subB.lookup (t,n)=some b->W.kitOne K (.type t) (.type n)=some b
 subO:∀ t j b,T.subO.lookup (t,j)=some b->W.kitOne K (.type t) (.ref (R.cad j))=some b
 cin:∀ c f,T.cin.lookup c=some f->Ma K (R.cad c) (R.fad f)/\∃ d,T.fns[f]? =some d
structure Gd (X:Cx) (G:Gx) (S:Sn) (k:Nat) (E:St->XK):Prop where
 hK:G.R.K=X.K
 hT:S.T=G.T
 sc:X.env.scope=S.sc
 N:X.N=S.N
 nd:S.N.Nodup
 pass:Passes (xE X.prog X.w) X E
 cm:G.cm=true->X.calm=true
 room:G.cm=true->bZ (k+1) X.A
 un:X.A.units+200<cLine
 tab:BW X.K X.mg G.T G.R
 fns:∀ f d,G.T.fns[f]? =some d->xi X.prog X.w X.K X.mg X.base k (G.R.fad f) d (G.Ψ f)
variable {x:Str}{l es:List Expr}
section
variable {X:Cx}{G:Gx}{S:Sn}{k:Nat}{E:St->XK}
def Gd.bin (g:Gd X G S k E)(op:Operator):cR X (binaryOp op) (EG G.R.K op):=g.hK▸Gi op
def Gd.cmp (g:Gd X G S k E)(op:CmpOp):cR X (compareOp op) (k9 G.R.K op):=g.hK▸FD g.un op
def Gd.glob (g:Gd X G S k E)(h:S.pL x=true):Gl X x/\(x ==("__debug__":Str))=false:=by
 unfold Sn.pL at h;simp only[nl,decide_eq_true_eq,Bool.not_eq_true']at h;refine⟨?_,h.2⟩;show X.env.scope.names.lookup x=_;rw[g.sc];exact h.1
def Gd.Jw (g:Gd X G S k E)(h:S.Jw x=true):JT X.env.scope x/\(x ==("__debug__":Str))=false/\(x ==("__classdict__":Str))=false:=by
 unfold Sn.Jw at h;simp only[nl,Bool.or_eq_true,decide_eq_true_eq,Bool.not_eq_true']at h;refine⟨?_,h.1.2,h.2⟩;unfold JT;rw[g.sc];rcases h.1.1 with(h|h)|h
 .exact .inl h
 .exact .inr (.inl h)
 .exact .inr (.inr h)
def Gd.loc (g:Gd X G S k E){i:Nat}(h:S.loc i x=true):X.N[i]? =some x/\L2.Loc X.env.scope x:=by
 unfold Sn.loc at h;simp only[nl,Bool.or_eq_true,decide_eq_true_eq]at h;rw[g.N];refine⟨h.1,?_⟩;unfold L2.Loc;rw[g.sc];exact h.2
def aX:∀ {es:gc}{l:List Expr},jz S es l=true->∀ (env:Env) (pos:Pos),(backTo pos (bm l env)).any (·.1)=false
 | .nil,[],_,_,_=>rfl
 | .nil,_::_,h,_,_=>by cases(show false=true from h)
 | .cons e es,[],h,_,_=>by cases(show false=true from h)
 | .cons e es,e'::l,h,env,pos=>by
  have h:(mE S e e'&&notStar e'&&jz S es l)=true:=h;simp only[nl]at h;rw[ah h.1.2];show((backTo pos (bm l env)).any (·.1))=false;exact aX h.2 env pos
def pC:∀ {es:gc}{l:List Expr},jz S es l=true->l.length=es.len
 | .nil,[],_=>rfl
 | .nil,_::_,h=>by cases(show false=true from h)
 | .cons e es,[],h=>by cases(show false=true from h)
 | .cons e es,e'::l,h=>by
  have h:(mE S e e'&&notStar e'&&jz S es l)=true:=h;simp only[nl]at h;show l.length+1=es.len+1;rw[pC h.2]
def bK {es:gc}(h:jz S es (e::l)=true):notStar e=true/\∃ x es',es=.cons x es'/\jz S es' l=true:=by
 cases es with
 |nil=>cases(show false=true from h)
 |cons x es'=>
  have h:(mE S x e&&notStar e&&jz S es' l)=true:=h;simp only[nl]at h;exact⟨h.1.2,x,es',rfl,h.2⟩
def uF:∀ {es:gc}{l:List Expr},jz S es l=true->es.len<20->∀ (env:Env) (cpos:Pos),methodCallForm (l.length+([]:List Keyword).length) (backTo cpos (bm l env)) (backToKw cpos (keywordEach [] env))=true:=by
 intro es l h hl env cpos;have h1:=aX h env cpos;have h2:=pC h;have h3:(backTo cpos (bm l env)).all (λx=>!x.1)=true:=by
  rw[all_eq_true];intro x hx;rw[any_eq_false]at h1;simpa using h1 x hx
 unfold methodCallForm;rw[h3,h2];simp[keywordEach,backToKw]
 omega
def nv {m:Str}{apos pos:Pos}{env:Env}(hb:iB o=true)(hf:methodCallForm (es.length+([]:List Keyword).length) (backTo pos (bm es env)) (backToKw pos (keywordEach [] env))=true)(hl:(apos.endLine ==pos.line)=true):
  eval (.Call (.Attribute o m apos) es [] pos) env=(do
   let ov <-eval o env
   standAt apos.atName
   let(f,first) <-holding [ov] (getMethod ov m (do return (<-importBound o env).getD true))
   callWith pos f first (backTo pos (bm es env)) (backToKw pos (keywordEach [] env))):=by
 show(do
  let ov <-attributeBase o m env (eval o env)
  standAt apos.atName
  methodCall o m apos pos env ov (es.length+([]:List Keyword).length) (backTo pos (bm es env)) (backToKw pos (keywordEach [] env)))=_
 rw[cZ hb];unfold methodCall calleeOf methodCallPos;rw[hf,hl]
 rfl
def E0 {es:gc}(h:jz S es (e::l)=true)(hl:es.len<20)(env:Env)(cpos:Pos):
  ((backTo cpos (bm (e::l) env)).all (λx=>!x.1)&&(backToKw cpos (keywordEach [] env)).all (λx=>x.1.isSome)
   &&decide ((e::l).length+([]:List Keyword).length+(if([]:List Keyword).isEmpty then 0 else 1)<30))=true:=by
 have h1:=aX h env cpos;have h2:=pC h;have h3:(backTo cpos (bm (e::l) env)).all (λx=>!x.1)=true:=by
  rw[all_eq_true];intro x hx;rw[any_eq_false]at h1;simpa using h1 x hx
 rw[h3,h2];simp[keywordEach,backToKw]
 omega
end
variable {H:Hp}{Y:MD}{a:Addr}
section
variable {X:Cx}{G:Gx}{S:Sn}{k:Nat}{E:St->XK}
def mY {K:W.Frag}{x:V}{t:String}(h:tyName x H=some t):iL K H x (.type t):=by
 unfold tyName at h
 split at h
 .cases h;exact .non
 .cases h;exact .bl _
 .cases h;exact .int _
 .cases h;exact .str _
 .split at h
  .rename_i e;cases h;exact .lst e
  .rename_i e;cases h;exact .tup e
  .rename_i e;cases h;exact .dK e
  .cases h
 .cases h
def uL {s:Shared}{U:St}{Q:VK}{i:Nat}{b:Bool}{cv:Value}(g:Gd X G S k E)(I:Inv X Y U H s)(o:yF G H a i)
  (e:W.kitOne X.K (.ref (G.R.cad i)) cv=some b) (q:Q (.bl b) H):wpAny (model X.prog X.w) X.A (call (.builtin "isinstance") [.ref a,cv]) (EP X Y U Q) X.xe s:=by
 rcases o with⟨ho,dx,fs,ha⟩|⟨ho,dx,fs,fr,ha⟩
 .obtain⟨c,z⟩:=g.tab.oc i ho;exact iT I (x:=.ref a) rfl (.ins ha c z.ha z.hn z.htk z.hm) e λtk=>⟨.bl b,H,I.tok _,rfl,q⟩
 .obtain⟨c,z⟩:=g.tab.xc i ho;exact xP I ha c z e λtk=>⟨.bl b,H,I.tok _,rfl,q⟩
def Bj (g:Gd X G S k E)(j:Nat):cO X (.builtin "isinstance") (λvs H Q=>∃ x,vs=[x,.ref (G.R.cad j)]/\mf G (.own j) x H Q):=by
 intro Y s U H xs us Q I r h;obtain⟨x,rfl,h⟩:=h;obtain⟨u,w',rfl,rx,rT⟩:=vals2 r;obtain rfl:w'=Value.ref (G.R.cad j):=rT;unfold mf at h;rcases h with⟨t,b,ht,hb,q⟩|⟨a,i,b,rfl,ho,hb,q⟩
 .exact iT I rx (mY ht) (g.tab.subO t j b hb) λtk=>⟨.bl b,H,I.tok _,rfl,q⟩
 .obtain rfl:u=Value.ref a:=rx;exact uL g I ho (g.tab.sub i j b hb).1 q
def E6 (g:Gd X G S k E)(n:String):cO X (.builtin "isinstance") (λvs H Q=>∃ x,vs=[x,.ty n]/\mf G (.ty n) x H Q):=by
 intro Y s U H xs us Q I r h;obtain⟨x,rfl,h⟩:=h;obtain⟨u,w',rfl,rx,rT⟩:=vals2 r;obtain rfl:w'=Value.type n:=rT;unfold mf at h;rcases h with⟨t,b,ht,hb,q⟩|⟨a,i,b,rfl,ho,hb,q⟩
 .exact iT I rx (mY ht) (g.tab.subB t n b hb) λtk=>⟨.bl b,H,I.tok _,rfl,q⟩
 .obtain rfl:u=Value.ref a:=rx;exact uL g I ho (g.tab.subT i n b hb) q
def AU {n:String}(h:j5.contains n=true):bootBuiltins (n:Str)=some (.type n):=by
 have h':n ∈ j5:=by simpa using h
 simp only[j5,nb,not_mem_nil,or_false]at h';rcases h' with rfl|rfl|rfl|rfl|rfl|rfl|rfl<;>decide+kernel
abbrev LM (G:Gx):Cl->V
 | .own c=>.ref (G.R.cad c)
 | .ty n=>.ty n
def Jf (g:Gd X G S k E){c:Cl}(h:CO S c e=true):PE X e (tC (LM G c)):=by
 unfold CO at h
 split at h
 .simp only[nl,decide_eq_true_eq]at h;obtain⟨hg,hd⟩:=g.glob h.1;exact uB hg (g.tab.gcl _ _ (g.hT▸h.2)) rfl hd
 .simp only[nl,decide_eq_true_eq]at h;obtain⟨⟨⟨h1,rfl⟩,h3⟩,h4⟩:=h;obtain⟨hg,hd⟩:=g.glob h1;obtain⟨hm,hn⟩:=g.tab.gbl _ (g.hT▸h3);exact Bk hg hm (AU h4) rfl hn hd
 .cases h
def GQ (g:Gd X G S k E)(c:Cl):cO X (.builtin "isinstance") (λvs H Q=>∃ x,vs=[x,LM G c]/\mf G c x H Q):=by
 cases c with
 |own j=>exact Bj g j
 |ty n=>exact E6 g n
abbrev zr:Bf->Value
 | .len=>.builtin "len"| .list=>.type "list"| .tuple=>.type "tuple"| .int=>.type "int"| .str=>.type "str"| .min=>.builtin "min"| .max=>.builtin "max"| .abs=>.builtin "abs"| .all=>.builtin "all"| .any=>.builtin "any"| .dict=>.type "dict"| .sum=>.builtin "sum"
def AN (b:Bf):bootBuiltins (yn b:Str)=some (zr b):=by cases b<;>decide+kernel
def ud:∀ {bs:List Bool}{us:List Value},Vals (bs.map V.bl) us->PyProof.Rows.LSm.BoolsAre us bs
 | [],_,h=>by cases h;exact .nil
 |b::bs,_,h=>by
  cases h with
  |cons r1 r2=>
   obtain rfl:_=Value.bool b:=r1;exact .cons b (ud r2)
def vp (hc:X.calm=true):cO X (.builtin "all") (λxs H Q=>∃ p,∃ bs:List Bool,xs=[.ref p]/\aU X.K H p (bs.map V.bl)/\Q (.bl (bs.all id)) H):=by
 intro Y s U H xs us Q I r h;obtain⟨p,bs,rfl,hq,q⟩:=h;obtain⟨u,rfl,rx⟩:=vals1 r;cases rx;obtain⟨its,r',pl,hz⟩:=I.list hq;have hb:=ud r';have hl:=pl.isList;have lt:p<s.heap.objs.size:=by obtain⟨_,e,_⟩:=hl;exact ut e
 refine call_all_walk (wpAny_pyIter_list hl ⟨s.heap.objs.size,[s.heap.objs.size,p],[s.heap.objs.size],its.toArray.size,_,_,λi=>(bs[i]?).getD true,rfl,
  Walks.list (A:=X.A.in1) (I.ok.hd hc) _ p (pi lt) its.toArray,⟨⟨_,v6 _ rfl,rfl,rfl⟩,hl.push _⟩,λi v s' Q' E' hP hQ=>?_,λh' tk hk=>?_⟩)
 .obtain⟨b,e,rfl⟩:=hb.get i v (by simpa using hP);have hQ:Q' ((bs[i]?).getD _) s':=hQ;rw[e]at hQ;exact bi hQ
 .have e:((List.range its.toArray.size).all λi=>(bs[i]?).getD true)=bs.all id:=by
   rw[ii,hb.length,PyProof.Rows.LSm.range_all]
  rw[e];exact⟨.bl _,H,I.kept (PyProof.Rows.LSm.kept_iter hk),rfl,q⟩
def pf:cO X (.type "dict") (λvs H Q=>∃ p kvs,vs=[.ref p]/\H p=some (.dK kvs)/\∀ l,H l=none->Q (.ref l) (upd H l (.dK kvs))):=by
 intro Y s U H xs us Q I r h;obtain⟨p,kvs,rfl,hp,q⟩:=h;obtain⟨u,rfl,rx⟩:=vals1 r;cases rx;exact zB I (.inl hp) λl s' hl J=>⟨.ref l,_,J,rfl,q l hl⟩
def HS (g:Gd X G S k E)(b:Bf):cO X (zr b) (lS G b):=by
 intro Y s U H xs us Q I r h;unfold lS at h;rw[g.hK]at h;cases b with
 |len=>exact zH Y s U H _ us Q I r h
 |list=>exact pw Y s U H _ us Q I r h
 |tuple=>exact mh Y s U H _ us Q I r h
 |int=>exact vZ Y s U H _ us Q I r h
 |str=>
  rcases h with h|⟨z,rfl,q⟩
  .exact oY Y s U H _ us Q I r h
  .obtain⟨u,rfl,t,rfl⟩:=vals1 r;exact PySem.P.str_of_str ⟨.str z,H,I,⟨_,rfl⟩,q⟩
 |min=>
  rcases h with⟨hc,h|h⟩
  .exact vC (g.cm hc) Y s U H _ us Q I r h
  .exact h.elim
 |max=>
  rcases h with⟨hc,h|h⟩
  .exact vS (g.cm hc) Y s U H _ us Q I r h
  .exact h.elim
 |abs=>exact h.elim
 |all=>exact vp (g.cm h.1) Y s U H _ us Q I r h.2
 |any=>exact h.elim
 |dict=>exact pf Y s U H _ us Q I r h
 |sum=>exact h.elim
abbrev Fe:Lm->String
 | .append=>"list.append"| .extend=>"list.extend"| .insert=>"list.insert"| .pop=>"list.pop"| .clear=>"list.clear"| .reverse=>"list.reverse"| .count=>"list.count"
def uC (m:Lm):Slot "list" (xH m:Str) (Fe m):=by
 cases m
 .exact PySem.F.slot_list_append
 .exact PySem.F.slot_list_extend
 .exact PySem.F.slot_list_insert
 .exact PySem.F.slot_list_pop
 .exact PySem.F.slot_list_clear
 .exact PySem.F.slot_list_reverse
 .exact PySem.F.slot_list_count
def D8 (m:Lm):typeOf (.builtin (Fe m))=pure (.type "method_descriptor"):=by cases m<;>rfl
abbrev Ms (m:Lm):V->List V->Hp->VK->Prop:=λx vs H Q=>∃ p xs,x=.ref p/\H p=some (.lst xs)/\EF m p xs vs H Q
def DM (m:Lm):JK X (Fe m) (Ms m):=by
 intro Y s U H x vs v us Q I rx rv h;obtain⟨p,xs,rfl,hp,h⟩:=h;unfold EF at h;cases m with
 |append=>
  obtain⟨y,rfl,h⟩:=h;exact i6 Y s U H _ _ v us Q I rx rv ⟨p,xs,_,rfl,rfl,hp,Nat.lt_of_le_of_lt h.1 (by decide),h.2⟩
 |extend=>
  obtain⟨b,zs,rfl,hz,hl,q⟩:=h;exact vn Y s U H _ _ v us Q I rx rv ⟨p,_,xs,zs,rfl,rfl,hp,hz,mU nofun,q⟩
 |insert=>
  obtain⟨i,y,rfl,h⟩:=h;exact wQ Y s U H _ _ v us Q I rx rv ⟨p,xs,_,_,rfl,rfl,hp,h.1,h.2.1,Nat.lt_of_le_of_lt h.2.2.1 (by decide),h.2.2.2⟩
 |pop=>exact h.elim
 |clear=>exact h.elim
 |reverse=>exact h.elim
 |count=>exact h.elim
def yA {m:Str}{apos pos:Pos}{ta:TE}{t:TA}{pl:Sem Bool}{n:Nat}(g:Gd X G S k E)(hc:G.cm=true)(he:PE X o ta)(ha:PA X es t)
  (hnil:es=[]->∀ U H R,t U H R->R [] H) (hst:∀ e r,es=e::r->bm es X.env=(false,eval e X.env)::bm r X.env) (hpl:∀ e r,es=e::r->(backTo pos (bm r X.env)).any (·.1)=false)
  (ht:eval (.Call (.Attribute o m apos) es [] pos) X.env=(do
   let ov <-eval o X.env
   standAt apos.atName
   let(f,first) <-holding [ov] (getMethod ov m pl)
   callWith pos f first (backTo pos (bm es X.env)) (backToKw pos (keywordEach [] X.env)))):
  PE X (.Call (.Attribute o m apos) es [] pos) (λU H Q=>ta U H λx H1=>∃ p i dx fs f,x=.ref p/\H1 p=some (.ins (G.R.cad i) dx fs)/\fs.lookup m=none/\G.T.me.lookup (i,m)=some f/\
   t U H1 λvs H2=>G.Ψ f (x::(vs++dflt G f n)) H2 Q (E U)):=by
 intro Y s U H Q I h;refine W.methodCall_KW (pl:=pl) (aB (he Y s U H _ I h) λu s1 ⟨x,H1,I1,rx,a,i,dx,fs,f,ex,ea,l,hf,q⟩=>?_) ht;subst ex;obtain rfl:u=Value.ref a:=rx;obtain⟨c,hm,d,hd⟩:=g.tab.me i m f hf;obtain⟨fd,F,B⟩:=(g.fns f d hd).fact;have hr:bZ k X.A:=(g.room hc).mono (Nat.le_succ _);obtain⟨ds,hb,hv⟩:∃ ds,Binds X.K fd d.ps ds/\Vals (dflt G f n) ds:=by
  unfold dflt;rw[hd];exact B _
 refine sG I1 ea c hm l ?_;cases es with
 |nil=>
  refine W.callWith_K0 (first:=[.ref a]) I1.b9 hm.kp ?_;exact nU (us:=[.ref a]) (vs:=[.ref a]) F hr hb hv g.pass I1 (.cons rfl .nil) (hnil rfl _ _ _ q)
 |cons e r=>
  refine W.callWith_K (first:=[.ref a]) (h₀:=X.base) I.ok.mod.kin hm.kp (aB (ha pos Y s1 U H1 _ I1 q) λus s2 ⟨vs,H2,I2,r,q2⟩=>⟨I2.b9,?_⟩) (hst e r rfl) (hpl e r rfl);exact nU (us:=.ref a::us) (vs:=.ref a::vs) F hr hb hv g.pass I2 (.cons rfl r) q2
end
def Eb {α β:Type}{f:α->Option β}:∀ {l:List α}{j:Nat}{y:β},(∀ a ∈ l,(f a).isSome=true)->(l.filterMap f)[j]? =some y->∃ a,l[j]? =some a/\f a=some y
 | [],_,_,_,h=>by simp at h
 |a::l,j,y,hs,h=>by
  obtain⟨b,hb⟩:=Option.isSome_iff_exists.mp (hs a mo);rw[filterMap_cons,hb]at h;cases j with
  |zero=>simp at h;exact⟨a,rfl,by rw[hb,h]⟩
  |succ j=>
   simp at h;obtain⟨a',h1,h2⟩:=Eb (λa ha=>hs a (dL _ ha)) h;exact⟨a',by simpa using h1,h2⟩
def xJ {α β:Type}{f:α->Option β}:∀ {l:List α},(∀ a ∈ l,(f a).isSome=true)->(l.filterMap f).length=l.length
 | [],_=>rfl
 |a::l,hs=>by
  obtain⟨b,hb⟩:=Option.isSome_iff_exists.mp (hs a mo);rw[filterMap_cons,hb];simp[xJ (λa ha=>hs a (dL _ ha))]
abbrev lG (env:Env):Str×NameKind->List (Str×Addr)->Sem (ForInStep (List (Str×Addr))):=λnk r=>do
 let cs:=r
 if(nk.2 ==NameKind.free)=true then do
  let a <-cellOf env nk.1
  pure (ForInStep.yield ((nk.1,a)::cs))
 else pure (ForInStep.yield cs)
def pD {env:Env}:∀ (names:List (Str×NameKind)) (cs:List (Str×Addr)),(∀ y ∈ names,y.2=.free->∃ c,env.cells.lookup y.1=some c)->
  ∃ cl,(forIn names cs (lG env):Sem _)=pure cl/\(∀ y c,cl.lookup y=some c->cs.lookup y=some c\/env.cells.lookup y=some c)/\(∀ y,(cs.lookup y).isSome=true->(cl.lookup y).isSome=true)/\∀ y ∈ names,y.2=.free->(cl.lookup y.1).isSome=true
 | [],cs,_=>⟨cs,rfl,λy c h=>.inl h,λy h=>h,λy hy=>absurd hy (by simp)⟩
 |(n,kd)::r,cs,h=>by
  by_cases hk:kd=.free
  .subst hk;obtain⟨c,hc⟩:=h (n,.free) mo rfl;obtain⟨cl,h1,h2,h3,h4⟩:=pD r ((n,c)::cs) λy hy=>h y (dL _ hy)
   have self:(((n,c)::cs).lookup n).isSome=true:=by simp[lookup_cons]
   refine⟨cl,?_,λy d q=>?_,λy q=>h3 y ?_,λy hy hf=>?_⟩
   .rw[forIn_cons];have e:lG env (n,.free) cs=pure (ForInStep.yield ((n,c)::cs)):=by
     unfold lG;simp only[cellOf,hc]
     rfl
    rw[e];exact h1
   .rcases h2 y d q with q|q
    .rw[lookup_cons]at q
     by_cases e:y=n
     .subst e;simp at q;subst q;exact .inr hc
     .rw[show(y ==n)=false from beq_eq_false_iff_ne.mpr e]at q;exact .inl q
    .exact .inr q
   .rw[lookup_cons];cases(y ==n)<;>simp[q]
   .rcases nb.mp hy with rfl|hy
    .exact h3 _ self
    .exact h4 y hy hf
  .obtain⟨cl,h1,h2,h3,h4⟩:=pD r cs λy hy=>h y (dL _ hy)
   refine⟨cl,?_,h2,h3,λy hy hf=>?_⟩
   .rw[forIn_cons];have e:lG env (n,kd) cs=pure (ForInStep.yield cs):=by
     unfold lG;cases kd<;>first|rfl|exact absurd rfl hk
    rw[e];exact h1
   .rcases nb.mp hy with rfl|hy
    .exact absurd hf hk
    .exact h4 y hy hf
variable {scope:Scope}
def Cw {env:Env}(h:∀ y ∈ scope.names,y.2=.free->∃ c,env.cells.lookup y.1=some c):
  ∃ cl,closureFor scope env=pure cl/\(∀ y c,cl.lookup y=some c->env.cells.lookup y=some c)/\∀ y ∈ scope.names,y.2=.free->(cl.lookup y.1).isSome=true:=by
 obtain⟨cl,h1,h2,_,h4⟩:=pD scope.names [] h;refine⟨cl,?_,λy c q=>(h2 y c q).resolve_left (by simp),h4⟩;have e:closureFor scope env=(forIn scope.names [] (lG env) >>= λcs=>pure cs):=by
  unfold closureFor lG
  rfl
 rw[e,h1]
 rfl
variable {xs:List Str}{sel:List Nat}
section
variable {X:Cx}{G:Gx}{S:Sn}{k:Nat}{E:St->XK}
def qQ (g:Gd X G S k E)(scope:Scope):relabel scope X.env=dQ S.sc scope:=by
 unfold relabel dQ Env.kindOf;rw[g.sc]
def cE (g:Gd X G S k E)(ok:X.Ok)(h:gu S scope xs sel=true):∃ cl,bC X scope cl xs (sel.filterMap λi=>S.N[i]?) sel:=by
 unfold gu at h;simp only[nl,decide_eq_true_eq,all_eq_true,Bool.or_eq_true,bne_iff_ne,ne_eq]at h;obtain⟨⟨⟨⟨⟨h1,h2⟩,h3⟩,h4⟩,h5⟩,h6⟩:=h;have hs:∀ i ∈ sel,(S.N[i]?).isSome=true:=λi hi=>by
  have:=h5 i hi
  split at this
  .rename_i e;rw[e];rfl
  .cases this
 obtain⟨cl,c1,c2,c3⟩:=Cw (env:=X.env) (scope:=scope) λy hy hf=>ok.has y.1 (.inl (by
  show X.env.scope.names.lookup y.1=_;rw[g.sc];exact((h3 y hy).2).resolve_left λz=>z hf))
 refine⟨cl,⟨c1,c2,λy hy=>?_,h1,λy hy=>(h3 y hy).1.1,λy hy hl=>((h3 y hy).1.2).resolve_left λz=>z hl,h4,(xJ hs).symm,λj y hj=>?_,h6⟩⟩
 .have:∃ kd,(y,kd) ∈ scope.names/\kd=.free:=by
   rcases hy with hy|hy
   .obtain⟨kd,m,q⟩:=dJ hy;rcases q with q|q
    .subst q;exact absurd rfl (h3 _ m).1.1
    .exact⟨kd,m,q.1⟩
   .obtain⟨kd,m,q⟩:=dJ hy;rcases q with q|q
    .exact⟨kd,m,q.symm⟩
    .exact nomatch q.2
  obtain⟨kd,m,rfl⟩:=this;exact Option.isSome_iff_exists.mp (c3 _ m rfl)
 .obtain⟨i,hi,hn⟩:=Eb hs hj;have q:=h5 i (cr hi);rw[hn]at q;simp only[nl,decide_eq_true_eq]at q;refine⟨i,hi,by rw[g.N];exact hn,by rw[g.sc];exact q.1,by rw[qQ g];exact q.2⟩
def Gd.comp (g:Gd X G S k E){cl:List (Str×Addr)}(C:bC X scope cl xs (sel.filterMap λi=>S.N[i]?) sel) (s:Shared) (H:Hp) (fp:List Addr):
  Gd (fN X scope cl (xs++sel.filterMap λi=>S.N[i]?) s H fp) G { S with sc:=dQ S.sc scope,N:=xs++sel.filterMap λi=>S.N[i]? } k (λ_ _ _=>False) where
 hK:=g.hK
 hT:=g.hT
 sc:=qQ g scope
 N:=rfl
 nd:=C.nd
 pass:=λY U H s e s' I h=>by
  obtain⟨e,H',C,dx,fs,T,_,_,_,_,_,_,_,_,_,q⟩:=h;exact q.elim
 cm:=g.cm
 room:=g.room
 un:=g.un
 tab:=g.tab
 fns:=g.fns
def qH (env:Env):∀ {is:List Nat}{ts:List Expr},wU S is ts=true->(assignEach ts env).length=is.length/\(assignEach ts env).findIdx? (·.1)=none
 | [],[],_=>⟨rfl,rfl⟩
 | [],_::_,h=>by simp[wU]at h
 |_::_,[],h=>by simp[wU]at h
 |i::is,t::ts,h=>by
  cases t<;>simp[wU]at h
  rename_i x p;obtain⟨h1,h2⟩:=qH env h.2;have e:assignEach (.Name x p::ts) env=(false,assign (.Name x p) env)::assignEach ts env:=rfl;rw[e];refine⟨by simp[h1],?_⟩;rw[List.findIdx?_cons];simp[h2]
def uw (g:Gd X G S k E):∀ {is:List Nat}{ts:List Expr},wU S is ts=true->GP X ts (gl is)
 | [],[],_=>λY s U H vs us Q I r h=>oE Y s U H vs us Q I r ⟨length_eq_zero_iff.mp h.1,by
   have:=h.2;have e:vs=[]:=length_eq_zero_iff.mp h.1;subst e;exact this⟩
 | [],_::_,h=>by simp[wU]at h
 |_::_,[],h=>by simp[wU]at h
 |i::is,t::ts,h=>by
  cases t<;>simp[wU]at h
  rename_i x p;have hl:X.env.scope.names.lookup x=some .local:=by rw[g.sc];exact h.1.2
  have h1:PG X (.Name x p) (iq i):=iD (by rw[g.N];exact g.nd) (by rw[g.N];exact h.1.1) (.inl hl) (.inr hl);have h2:=uw g h.2;intro Y s U H vs us Q I r q;refine iA h1 h2 rfl Y s U H vs us Q I r ?_;obtain⟨hl,q⟩:=q;cases vs with
  |nil=>simp at hl
  |cons v vs=>exact⟨v,vs,rfl,by simpa using hl,q⟩
def uS (g:Gd X G S k E)(hc:G.cm=true){n kt:Nat}{ts:List Expr}{pt:Pos}(h:wU S (List.range n) ts=true):PG X (.Tuple ts kt pt) (Dc G.R.K n (gl (List.range n))):=by
 obtain⟨e1,e2⟩:=qH X.env h;rw[List.length_range]at e1;rw[g.hK];exact ou (g.cm hc) (uw g h) e1 e2
def uo {n:Nat}(h:xs.length=n):pQ xs=sK n none:=by
 subst h;unfold pQ;rw[List.map_const']
end
set_option maxHeartbeats 2000000
variable {r:List Expr}{p:Pos}{U:L2.St}{s1:Shared}{R:It->Hp->Prop}{keys:List (Option Expr)}
section
variable {G:Gx}{k:Nat}
def kG {o1 o2:CmpOp}{c:Expr}(h:cH c=true):lastMarks [o1,o2] [b,c]=false:=by
 show behindInMarks o2 c=false;exact cV h _
def sV {o1 o2 o3:CmpOp}{c d:Expr}(h:cH d=true):lastMarks [o1,o2,o3] [b,c,d]=false:=by
 show behindInMarks o3 d=false;exact cV h _
def yH {t:TE}(h:PE X (match r with| []=>b|_=>.BoolOp .And (b::r) p) t):PE X (.BoolOp .And (b::r) p) t:=by
 cases r with
 |nil=>exact Aj h
 |cons c r=>exact h
def zR {t:TE}(h:PE X (match r with| []=>b|_=>.BoolOp .Or (b::r) p) t):PE X (.BoolOp .Or (b::r) p) t:=by
 cases r with
 |nil=>exact Aj h
 |cons c r=>exact h
def DQ {op:BoolOp}(h:PT X (.BoolOp op l p) t):PW X (.BoolOp op l p) t:=λwhole Y s U H Q I q=>by
 have:=h Y s U H Q I q;exact this
def zO (h:PT X (match r with| []=>b|_=>.BoolOp .And (b::r) p) t):PW X (.BoolOp .And (b::r) p) t:=by
 cases r with
 |nil=>exact B6 h
 |cons c r=>exact DQ h
def xk (h:PT X (match r with| []=>b|_=>.BoolOp .Or (b::r) p) t):PW X (.BoolOp .Or (b::r) p) t:=by
 cases r with
 |nil=>exact GD h
 |cons c r=>exact DQ h
def Cz:JH X (unaryOp .USub) (λx H Q=>match x with| .int i=>Q (.int (-i)) H|_=>False):=by
 intro Y s U H x v Q I r h
 split at h
 .exact(L2.Fv Y s U H _ v Q I r ⟨_,rfl,h⟩)
 .exact h.elim
def wm {CX:tW}{C f:Addr}{fd:FuncData}{ps:List Str}{sp:Sp}{dvs:List V}{ds:List Value}{E:St->XK}{pos:Pos}(M:JS X.K C f)(F:dy X.prog X.w X.K X.mg X.base CX k f fd ps sp)(hr:bZ (k+1) X.A)(hg:Gl X x)(hm:X.mg x=some (.ref C))(hb:Binds X.K fd ps ds)(hd:Vals dvs ds)(hx:Passes CX X E)
  (hdb:(x ==("__debug__":Str))=false):PE X (.Call (.Name x p) [] [] pos) (zt C sp dvs E AJ):=by
 intro Y s U H Q I h;refine bv (bL I hg hm ?_ hdb);exact W.callWith_K0 I.b9 M.kp (ng (us:=[]) M F hr hb hd hx (Nat.zero_le _) I .nil h.2)
def cR.cw {f:Value->Value->Sem Value}{r:R2}(h:cR X f r):cR X f (λx y H R=>∃ Q,r x y H Q/\∀ z H1,Q z H1->R z H1):=λY s U H x y v u R I rx ry ⟨Q,q,i⟩=>
 aB (h Y s U H x y v u Q I rx ry q) λ_ _ ⟨v,H',J,r,z⟩=>⟨v,H',J,r,i _ _ z⟩
section
open PyProof.Rows
def wD {tg:Expr}{H1:Hp}{v:Value}{xs:List V}(I1:Inv X Y U H1 s1)(r:RelV (.ref a) v)(hq:aU X.K H1 a xs)(q:R (GU X.K a) H1):
  wpAny (model X.prog X.w) X.A (pyIter v) (JL X Y U tg R) X.xe s1:=by
 cases r;obtain⟨its,rv,p,hz⟩:=I1.list hq;refine wpAny_pyIter_list p.isList ?_;refine⟨s1.heap.objs.size,[s1.heap.objs.size],_,_,H1,rfl,I1.kept (t':=s1.toks) λb o e=>ul _ e,vT a _,⟨_,v6 _ rfl,rfl,rfl⟩,λb hb=>?_,q⟩;have e:b=s1.heap.objs.size:=by simpa using hb
 subst e;exact I1.yu (re _) (I1.hok.fresh (re _))
def yT {tg:Expr}{H1:Hp}{v:Value}{xs:List V}(I1:Inv X Y U H1 s1)(r:RelV (.ref a) v)(hq:bc X.K H1 a xs)(q:R (Hr X.K a) H1):
  wpAny (model X.prog X.w) X.A (pyIter v) (JL X Y U tg R) X.xe s1:=by
 cases r;obtain⟨its,rv,p,hz⟩:=I1.tuple hq;refine wpAny_pyIter_tuple (show s1.heap.IsTuple a its.toArray from p) ?_;refine⟨s1.heap.objs.size,[s1.heap.objs.size],_,_,H1,rfl,I1.kept (t':=s1.toks) λb o e=>ul _ e,rO a _,⟨_,v6 _ rfl,rfl,rfl⟩,λb hb=>?_,q⟩;have e:b=s1.heap.objs.size:=by simpa using hb
 subst e;exact I1.yu (re _) (I1.hok.fresh (re _))
end
def Fh {K:W.Frag}{x:V}{Q:Bool->Hp->Prop}(h:FN K x H Q):∃ k,AD K x H k/\Q k H:=by
 unfold FN at h
 split at h
 .exact⟨_,rfl,h⟩
 .exact h
abbrev JR:List Str->List V->List (V×V)
 |k::ks,x::xs=>(.str k,x)::JR ks xs
 |_,_=>[]
def yj:∀ {ks:List Str}{xs:List V},JR ks xs=(G2 ks xs).map (λkv=>(kV kv.1,kv.2))
 | [],_=>rfl
 |_::_,[]=>rfl
 |k::ks,x::xs=>by
  show(V.str k,x)::JR ks xs=(kV (.inr k),x)::(G2 ks xs).map _;rw[yj]
  rfl
def ur:∀ {ks:List Str}{xs:List V},(G2 ks xs).length<=ks.length
 | [],_=>re _
 |_::_,[]=>Nat.zero_le _
 |k::ks,x::xs=>Nat.succ_le_succ ur
def i5 {k:Str}{ks:List Str}(h:oa (k::ks) keys=true):∃ j p r,keys=some (.Constant (.str k) j p)::r/\oa ks r=true:=by
 unfold oa at h
 split at h
 .rename_i e;cases e
 .rename_i k' ks' x j p r e
  injection e with e1 e2
  subst e1 e2;simp only[nl,decide_eq_true_eq]at h;obtain⟨rfl,h⟩:=h;exact⟨_,_,_,rfl,h⟩
 .cases h
def kX (h:oa [] keys=true):keys=[]:=by
 cases keys with
 |nil=>rfl
 |cons a r=>cases(show false=true from h)
def qj:∀ {ks:List Str}{keys:List (Option Expr)},oa ks keys=true->keys.length=ks.length
 | [],keys,h=>by rw[kX h];rfl
 |k::ks,keys,h=>by
  obtain⟨j,p,r,rfl,h2⟩:=i5 h;rw[length_cons,length_cons,qj h2]
def qE:∀ {ks:List Str}{keys:List (Option Expr)},oa ks keys=true->keys.all (·.isSome)=true
 | [],keys,h=>by rw[kX h];rfl
 |k::ks,keys,h=>by
  obtain⟨j,p,r,rfl,h2⟩:=i5 h;rw[all_cons,qE h2]
  rfl
def yZ {S:Sn}:∀ {x:gc}{e:List Expr},jz S x e=true->e.length=x.len
 | .nil,[],_=>rfl
 | .nil,_::_,h=>by cases(show false=true from h)
 | .cons x xs,[],h=>by cases(show false=true from h)
 | .cons x xs,e::es,h=>by
  have h:(mE S x e&&notStar e&&jz S xs es)=true:=h;simp only[nl]at h;exact congrArg Nat.succ (yZ h.2)
mutual
theorem sE:∀ (x:Ex){X:Cx}{S:Sn}{E:St->XK},Gd X G S k E->∀ {e:Expr},mE S x e=true->PE X e (λU H Q=>wE G x U H Q (E U))
 | .v i,X,S,E,g,e,h=>by
  sleep 1
  simp only[nl,decide_eq_true_eq]at h;obtain⟨h1,h2⟩:=h;obtain⟨v1,v2,v3⟩:=g.Jw h2;refine PE.imp (FX (i:=i) (by rw[g.N];exact h1) v1 v2 v3) λU H Q q=>?_
  conv at q=>whnf
  split at q
  .rename_i e;exact⟨_,e,q⟩
  .exact q.elim
 | .int i,X,S,E,g,e,h=>by
  sleep 2
  simp only[decide_eq_true_eq]at h;subst h;exact E8
 | .bl i,X,S,E,g,e,h=>by
  sleep 2
  simp only[decide_eq_true_eq]at h;subst h;exact Ia
 | .non,X,S,E,g,e,h=>by
  sleep 2
  exact FI
 | .str i,X,S,E,g,e,h=>by
  sleep 2
  simp only[decide_eq_true_eq]at h;subst h;exact xU
 | .gl x,X,S,E,g,e,h=>by
  sleep 1
  simp only[nl,decide_eq_true_eq]at h;obtain⟨rfl,h2⟩:=h;obtain⟨hg,hd⟩:=g.glob h2;intro Y s U H Q I q
  conv at q=>whnf
  split at q
  .rename_i v e;obtain⟨u,hm,r⟩:=g.tab.gl _ v e;exact uB hg hm r hd Y s U H Q I q
  .exact q.elim
 | .bin op a b,X,S,E,g,e,h=>by
  sleep 1
  simp only[nl,decide_eq_true_eq]at h;obtain⟨⟨rfl,ha⟩,hb⟩:=h;exact Jl (g.bin op) (sE a g ha) (sE b g hb)
 | .neg a,X,S,E,g,e,h=>by
  sleep 2
  exact Hx Cz (sE a g h)
 | .not a,X,S,E,g,e,h=>by
  sleep 2
  refine PE.imp (EA (PE.cw (sE a g h))) λU H Q q=>⟨_,q,λx H1 z=>?_⟩
  split at z
  .exact⟨_,rfl,z⟩
  .exact z.elim
 | .and a b,X,S,E,g,e,h=>by
  sleep 3
  simp only[nl]at h;refine PE.imp (Gh (PE.cw (sE a g h.1)) (yH (sE b g h.2))) λU H Q q=>⟨_,q,λx H1 z=>?_⟩
  split at z
  .rw[c7]at z;exact⟨_,rfl,z⟩
  .exact z.elim
 | .or a b,X,S,E,g,e,h=>by
  sleep 3
  simp only[nl]at h;refine PE.imp (G8 (PE.cw (sE a g h.1)) (zR (sE b g h.2))) λU H Q q=>⟨_,q,λx H1 z=>?_⟩
  split at z
  .rw[c7]at z;exact⟨_,rfl,z⟩
  .exact z.elim
 | .cmp op a b,X,S,E,g,e,h=>by
  sleep 3
  simp only[nl,decide_eq_true_eq]at h;obtain⟨⟨⟨rfl,ha⟩,hb⟩,hn⟩:=h;exact Bq (g.cmp op) (sE a g ha) (sE b g hb) (cV hn _)
 | .cmp2 o1 o2 a b c,X,S,E,g,e,h=>by
  sleep 3
  simp only[nl,decide_eq_true_eq]at h;obtain⟨⟨⟨⟨⟨rfl,rfl⟩,ha⟩,hb⟩,hc⟩,hn⟩:=h;refine PE.imp (xZ (cR.cw (g.cmp o1)) (g.cmp o2) (PE.cw (sE a g ha)) (PE.cw (sE b g hb)) (sE c g hc) (kG hn)) λU H Q q=>⟨_,q,λx H1 q1=>⟨_,q1,λy H2 q2=>⟨_,q2,λz H3 q3=>?_⟩⟩⟩
  split at q3
  .rw[c7]at q3;exact⟨_,rfl,q3⟩
  .exact q3.elim
 | .cmp3 o1 o2 o3 a b c d,X,S,E,g,e,h=>by
  sleep 3
  simp only[nl,decide_eq_true_eq]at h;obtain⟨⟨⟨⟨⟨⟨⟨rfl,rfl⟩,rfl⟩,ha⟩,hb⟩,hc⟩,hd⟩,hn⟩:=h;refine PE.imp (vH (cR.cw (g.cmp o1)) (cR.cw (g.cmp o2)) (g.cmp o3) (PE.cw (sE a g ha)) (PE.cw (sE b g hb)) (PE.cw (sE c g hc)) (sE d g hd) (sV hn)) λU H Q q=>⟨_,q,λx H1 q1=>⟨_,q1,λy H2 q2=>⟨_,q2,λz H3 q3=>?_⟩⟩⟩
  split at q3
  .refine⟨_,rfl,?_⟩;rw[c7]at q3
   split at q3
   .rename_i hk;rw[if_pos hk];refine⟨_,q3,λw H4 q4=>⟨_,q4,λz' H5 q5=>?_⟩⟩
    split at q5
    .rw[c7]at q5;exact⟨_,rfl,q5⟩
    .exact q5.elim
   .rename_i hk;rw[if_neg hk];exact q3
  .exact q3.elim
 | .ife c a b,X,S,E,g,e,h=>by
  sleep 1
  simp only[nl]at h;exact PE.imp (yf (PT.cw (sT c g h.1.1)) (sE a g h.1.2) (sE b g h.2)) λU H Q q=>⟨_,q,λk H1 z=>by rwa [c7]at z⟩
 | .tup es,X,S,E,g,e,h=>by
  sleep 1
  refine PE.imp (GI (PA.cw (uJ es g h))) λU H Q q=>⟨_,q,λx H1 z=>by unfold iG at z;exact⟨mU (by have:=z.1;omega),z.2⟩⟩
 | .lst es,X,S,E,g,e,h=>by
  sleep 1
  refine PE.imp (Fq (PA.cw (uJ es g h))) λU H Q q=>⟨_,q,λx H1 z=>by unfold Cr at z;exact⟨mU (by have:=z.1;omega),z.2⟩⟩
 | .ix a i,X,S,E,g,e,h=>by
  sleep 1
  simp only[nl]at h;have hr:HX X (qF G.R.K):=g.hK▸tS g.un;exact Jt hr (sE a g h.1.1) (sE i g h.1.2) (sA h.2)
 | .sl a lo hi,X,S,E,g,e,h=>by
  sleep 3
  simp only[nl]at h;have hr:JN X (DR G.R.K):=g.hK▸EY;exact Aa hr (sE a g h.1.1) (sO lo g h.1.2) (sO hi g h.2)
 | .fld a f,X,S,E,g,e,h=>by
  sleep 1
  simp only[nl,decide_eq_true_eq]at h;obtain⟨⟨ha,rfl⟩,hn⟩:=h;intro Y s U H Q I q;have q':wE G a U H (λx H1=>sx G f x H1 Q) (E U):=q;refine Cp (cZ hn _ _ _) (aB (sE a g ha Y s U H _ I q') λu s1 ⟨x,H1,I1,rx,qf⟩=>?_);unfold sx at qf;obtain⟨a,i,fs,v,ex,ea,hna,l,q⟩:=qf;subst ex;obtain rfl:u=Value.ref a:=rx;have n:=g.tab.na i f hna;rcases ea with⟨ho,dx,ea⟩|⟨ho,dx,fr,ea⟩
  .exact tw I1 ea (g.tab.oc i ho).1 n l λu' s' J rv=>⟨v,H1,J,rv,q⟩
  .exact wF I1 ea (g.tab.xc i ho).1 n l λu' s' J rv=>⟨v,H1,J,rv,q⟩
 | .call f es,X,S,E,g,e,h=>by
  sleep 3
  rename_i es' pos _ xn p1 _;simp only[nl,decide_eq_true_eq]at h;obtain⟨⟨h1,h2⟩,h3⟩:=h;obtain⟨hg,hdb⟩:=g.glob h1;obtain⟨hm,hk,d,hd⟩:=g.tab.gfn _ _ (g.hT▸h2);obtain⟨fd,F,B⟩:=(g.fns f d hd).fact;obtain⟨ds,hb,hv⟩:∃ ds,Binds X.K fd d.ps ds/\Vals (dflt G f es.len) ds:=by
   unfold dflt;rw[hd];exact B _
  intro Y s U H Q I q;obtain⟨hc,q⟩:=(show G.cm=true/\wEs G es U H (λvs H1=>G.Ψ f (vs++dflt G f es.len) H1 Q (E U)) (E U) from q);have hr:bZ k X.A:=(g.room hc).mono (Nat.le_succ _);cases es' with
  |nil=>
   cases es with
   |nil=>exact zZ F hr hg hm hk hb hv g.pass hdb Y s U H Q I q
   |cons _ _=>cases(show false=true from h3)
  |cons e0 er=>
   have PAs:=uJ es g h3;obtain⟨ns,x0,xr,rfl,h4⟩:=bK h3;exact BH F hr hg hm hk hb hv g.pass PAs hdb (ah ns) (aX h4 _ _) Y s U H Q I q
 | .meth a m es,X,S,E,g,e,h=>by
  sleep 3
  rename_i es' pos _ a' m' apos _;simp only[nl,decide_eq_true_eq]at h;obtain⟨⟨⟨⟨⟨ha,rfl⟩,h3⟩,h4⟩,h5⟩,h6⟩:=h;intro Y s U H Q I q;obtain⟨hc,q⟩:=(show G.cm=true/\_ from q);refine yA (n:=es.len+1) g hc (sE a g ha) (uJ es g h3) (λz U H R hr=>?_) (λe r z=>?_) (λe r z=>?_) (nv h4 (uF h3 h6 _ _) h5) Y s U H Q I q
  .subst z;cases es with
   |nil=>exact hr
   |cons _ _=>cases(show false=true from h3)
  .subst z;exact ah (bK h3).1
  .subst z;have PAs:=uJ es g h3;obtain⟨ns,x0,xr,rfl,h4⟩:=bK h3;exact aX h4 _ _
 | .lm m a es,X,S,E,g,e,h=>by
  sleep 3
  rename_i es' pos _ a' m' apos _;simp only[nl,decide_eq_true_eq]at h;obtain⟨⟨⟨⟨⟨ha,rfl⟩,h3⟩,h4⟩,h5⟩,h6⟩:=h;cases es' with
  |nil=>
   cases es with
   |nil=>exact PE.imp (EN PySem.F.plainAttrs_list (uC m) (D8 m) (DM m) (PE.cw (sE a g ha)) (cZ h4 _ _ _) h5) λU H Q q=>⟨_,q,λx H1 z=>by
     obtain⟨p,xs0,ex,hp,q⟩:=z;subst ex;obtain⟨xs,h1,h2⟩:=q;exact⟨.inl ⟨rfl,xs0,aU.of hp⟩,p,xs,rfl,h1,h2⟩⟩
   |cons _ _=>cases(show false=true from h3)
  |cons e0 er=>
   have PAs:=uJ es g h3;obtain⟨ns,x0,xr,rfl,h7⟩:=bK h3;exact PE.imp (Ik PySem.F.plainAttrs_list (uC m) (D8 m) (DM m) (PE.cw (sE a g ha)) (PA.cw PAs) (cZ h4 _ _ _) (E0 h3 h6 _ _) h5 (ah ns) (aX h7 _ _)) λU H Q q=>⟨_,q,λx H1 z=>by
     obtain⟨p,xs0,ex,hp,q⟩:=z;subst ex;exact⟨.inl ⟨rfl,xs0,aU.of hp⟩,_,q,λvs H2 ⟨xs,h1,h2⟩=>⟨p,xs,rfl,h1,h2⟩⟩⟩
 | .dget a k d,X,S,E,g,e,h=>by cases(show false=true from h)
 | .lix a b,X,S,E,g,e,h=>by cases(show false=true from h)
 | .make c es,X,S,E,g,e,h=>by
  sleep 3
  rename_i es' pos _ xn p1 _;simp only[nl,decide_eq_true_eq]at h;obtain⟨⟨h1,h2⟩,h3⟩:=h;obtain⟨hg,hdb⟩:=g.glob h1;have hm:=g.tab.gcl _ _ (g.hT▸h2);intro Y s U H Q I q
  conv at q=>whnf
  obtain⟨hc,q⟩:=q
  split at q
  .obtain⟨h0,q⟩:=q;cases es' with
   |nil=>
    cases es with
    |nil=>exact absurd q.1 (by decide)
    |cons _ _=>cases(show false=true from h3)
   |cons e0 er=>
    have PAs:=uJ es g h3;obtain⟨ns,x0,xr,rfl,h4⟩:=bK h3;exact xB (g.tab.ini0 c h0) hg hm PAs hdb (ah ns) (aX h4 _ _) Y s U H Q I q
  .rename_i f hf;obtain⟨⟨d,hd⟩,hmk⟩:=g.tab.ini c f hf;obtain⟨fd,F,B⟩:=(g.fns f d hd).fact;obtain⟨ds,hb,hv⟩:∃ ds,Binds X.K fd d.ps ds/\Vals (dflt G f (es.len+1)) ds:=by
    unfold dflt;rw[hd];exact B _
   have hr:=g.room hc
   split at q
   .rename_i hx;rw[if_pos hx]at hmk;cases es' with
    |nil=>
     cases es with
     |nil=>exact wm hmk F hr hg hm hb hv g.pass hdb Y s U H Q I q
     |cons _ _=>cases(show false=true from h3)
    |cons e0 er=>
     have PAs:=uJ es g h3;obtain⟨ns,x0,xr,rfl,h4⟩:=bK h3;exact yp hmk F hr hg hm hb hv g.pass PAs hdb (ah ns) (aX h4 _ _) Y s U H Q I q
   .rename_i hx;rw[if_neg hx]at hmk;cases es' with
    |nil=>
     cases es with
     |nil=>exact y9 hmk F hr hg hm hb hv g.pass hdb Y s U H Q I q
     |cons _ _=>cases(show false=true from h3)
    |cons e0 er=>
     have PAs:=uJ es g h3;obtain⟨ns,x0,xr,rfl,h4⟩:=bK h3;exact Cm hmk F hr hg hm hb hv g.pass PAs hdb (ah ns) (aX h4 _ _) Y s U H Q I q
 | .bini es,X,S,E,g,e,h=>by
  sleep 4
  rename_i es' pos _ mm p2 _ xn p1 _;simp only[nl,decide_eq_true_eq]at h;obtain⟨⟨⟨⟨⟨h1,rfl⟩,h2⟩,h3⟩,h4⟩,h5⟩:=h;obtain⟨hg,hdb⟩:=g.glob h1;obtain⟨B,hm,hB⟩:=g.tab.gbi _ (g.hT▸h2);cases es' with
  |nil=>
   cases es with
   |nil=>cases h4
   |cons _ _=>cases(show false=true from h3)
  |cons e0 er=>
   have PAs:=uJ es g h3;obtain⟨ns,x0,xr,rfl,h7⟩:=bK h3;refine PE.imp (Fj hB hg hm (PA.cw PAs) hdb (ah ns) (aX h7 _ _) (nv (o:=.Name _ _) rfl (uF h3 (by rw[h4];decide) _ _) h5)) λU H Q q=>⟨_,q,λvs H1 z=>?_⟩
   obtain⟨a,i,dx,fs,fr,v,ev,ea,hi,q⟩:=z;exact⟨a,_,dx,fs,fr,v,ev,ea,(g.tab.xc i hi).1,q⟩
 | .cini c es,X,S,E,g,e,h=>by cases(show false=true from h)
 | .bf b es,X,S,E,g,e,h=>by
  sleep 3
  rename_i es' pos _ xn p1 _;simp only[nl,decide_eq_true_eq]at h;obtain⟨⟨⟨⟨h1,rfl⟩,h2⟩,h3⟩,h4⟩:=h;obtain⟨hg,hdb⟩:=g.glob h1;obtain⟨hm,hn⟩:=g.tab.gbl _ (g.hT▸h2);cases es' with
  |nil=>
   cases es with
   |nil=>exact absurd h4 (by decide)
   |cons _ _=>cases(show false=true from h3)
  |cons e0 er=>
   have PAs:=uJ es g h3;obtain⟨ns,x0,xr,rfl,h7⟩:=bK h3;have hb:=AN b;have hk:=HS g b;have key:∀ {v:Value},zr b=v->(∃ i,v=.builtin i)\/(∃ i,v=.type i):=by
    intro v hv;subst hv;cases b<;>first|exact .inl ⟨_,rfl⟩|exact .inr ⟨_,rfl⟩
   rcases key rfl with⟨i,hi⟩|⟨i,hi⟩
   .rw[hi]at hb hk;exact qI hk hg hm hb PAs hn hdb (ah ns) (aX h7 _ _)
   .rw[hi]at hb hk;exact vy hk hg hm hb PAs hn hdb (ah ns) (aX h7 _ _)
 | .isi a c,X,S,E,g,e,h=>by
  sleep 4
  rename_i pos _ xn p1 _ _ a' c';simp only[nl,decide_eq_true_eq]at h;obtain⟨⟨⟨⟨h1,rfl⟩,h2⟩,h3⟩,h4⟩:=h;obtain⟨hg,hdb⟩:=g.glob h1;obtain⟨hm,hn⟩:=g.tab.gbl _ (g.hT▸h2);have n1:notStar a'=true:=by
   cases a'<;>first|rfl|(cases a<;>cases(show false=true from h3))
  have n2:notStar c'=true:=by
   cases c'<;>first|rfl|(cases c<;>simp[CO]at h4)
  refine PE.imp (qI (GQ g c) hg hm Eo (k8 (PE.cw (sE a g h3)) (k8 (Jf g h4) gp n2) n1) hn hdb (ah n1) ?_) λU H Q q=>⟨_,q,λx H1 z=>⟨x,rfl,z⟩⟩
  rw[ah n2]
  rfl
 | .lc elt sel it,X,S,E,g,e,h=>by
  sleep 2
  split at h
  iterate 3 (split at h;rotate_left;cases h)
  simp only[nl]at h;obtain⟨⟨⟨h1,h2⟩,h3⟩,h4⟩:=h;intro Y s U H Q I q;obtain⟨hc,q⟩:=(show G.cm=true/\wI G it U H (λJ H1=>zS (λσ' H' Q'=>wE G elt σ' H' Q' (λ_ _=>False)) J (none::hR U sel) H1 Q) (E U) from q);rw[w9]at q;obtain⟨cl,C⟩:=cE g I.ok h1;exact zX (g.cm hc) C (sI it g h2) (λs H fp=>sE elt (g.comp C s H fp) h3) (bV h4 _) Y s U H Q I q
 | .lci elt c sel it,X,S,E,g,e,h=>by cases(show false=true from h)
 | .lct elt n sel it,X,S,E,g,e,h=>by
  sleep 2
  split at h
  iterate 3 (split at h;rotate_left;cases h)
  simp only[nl,decide_eq_true_eq]at h;obtain⟨⟨⟨⟨⟨h1,h5⟩,h6⟩,h2⟩,h3⟩,h4⟩:=h;intro Y s U H Q I q;obtain⟨hc,q⟩:=(show G.cm=true/\wI G it U H (λJ H1=>LCt G.R.K n (λσ' H' Q'=>wE G elt σ' H' Q' (λ_ _=>False)) J (sK n none++hR U sel) H1 Q) (E U) from q);rw[An,<-uo h6]at q;obtain⟨cl,C⟩:=cE g I.ok h1;exact mN (g.cm hc) C (sI it g h2) (λs H fp=>uS (g.comp C s H fp) hc h5) (λs H fp=>j8) (λs H fp=>sE elt (g.comp C s H fp) h3) (bV h4 _) Y s U H Q I q
 | .lcu elt c n sel it,X,S,E,g,e,h=>by cases(show false=true from h)
 | .dnew,X,S,E,g,e,h=>by
  sleep 3
  refine PE.imp zq λU H Q q=>?_
  have q':newD H Q:=q;unfold newD at q';exact q'
 | .up a,X,S,E,g,e,h=>by cases(show false=true from h)
 | .isiT a cs,X,S,E,g,e,h=>by cases(show false=true from h)
 | .uh c,X,S,E,g,e,h=>by
  sleep 4
  simp only[nl,decide_eq_true_eq]at h;obtain⟨⟨h1,h2⟩,h3⟩:=h;obtain⟨hg,hdb⟩:=g.glob h1;refine PE.imp (yv (g.tab.inip c (g.hT▸h3)) hg (g.tab.gcl _ _ (g.hT▸h2)) hdb) λU H Q q=>?_
  have q':yO (G.R.cad c) H Q:=q;unfold yO at q';exact q'
 | .vals tp a,X,S,E,g,e,h=>by cases(show false=true from h)
 | .disp ks es,X,S,E,g,e,h=>by
  sleep 1
  simp only[nl,decide_eq_true_eq]at h;obtain⟨⟨⟨⟨h1,h2⟩,h3⟩,h4⟩,h5⟩:=h;intro Y s U H Q I q;have hk:=qj h1;have hv:=yZ h2;refine AW (LF es g h1 h2 h3) (qE h1) nofun (λz=>by rw[z]at hk;simp at hk;omega) nofun Y s U H Q I λp hp=>?_
  refine⟨_,q p hp,λxs H2 hl z=>?_⟩;unfold t7 at z;exact⟨z.1,G2 ks xs,yj,by have:=ur (ks:=ks) (xs:=xs);omega,z.2⟩
 | .dzip a b,X,S,E,g,e,h=>by
  sleep 8
  simp only[nl,decide_eq_true_eq]at h;obtain⟨⟨⟨⟨⟨⟨⟨⟨⟨h1,rfl⟩,h2⟩,h3⟩,rfl⟩,h4⟩,h5⟩,h6⟩,n1⟩,n2⟩:=h;obtain⟨hg,hdb⟩:=g.glob h1;obtain⟨hm,hn⟩:=g.tab.gbl _ (g.hT▸h2);obtain⟨hg',hdb'⟩:=g.glob h3;obtain⟨hm',hn'⟩:=g.tab.gbl _ (g.hT▸h4);intro Y s U H Q I q;obtain⟨hc,q⟩:=(show G.cm=true/\wE G a U H (λx H1=>wE G b U H1 (λy H2=>Ic G.R.K x y H2 Q) (E U)) (E U) from q);refine A9 (g.cm hc) hg hm hg' hm' (k8 (PE.cw (sE a g h5)) (k8 (PE.cw (sE b g h6)) gp n2) n1) (ah n1) (by rw[ah n2];rfl) Y s U H Q I ⟨_,q,λx H1 z=>⟨_,z,λy H2 z=>?_⟩⟩;unfold Ic at z;exact⟨_,_,rfl,g.hK▸z⟩
termination_by structural x=>x
theorem sI:∀ (x:DF){X:Cx}{S:Sn}{E:St->XK},Gd X G S k E->∀ {t e:Expr},mI S x t e=true->PI X t e (λU H R=>wI G x U H R (E U))
 | .rng1 a,X,S,E,g,t,e,h=>by
  sleep 4
  simp only[nl,decide_eq_true_eq]at h;obtain⟨⟨⟨⟨h1,rfl⟩,h2⟩,h3⟩,n1⟩:=h;obtain⟨hg,hdb⟩:=g.glob h1;obtain⟨hm,hn⟩:=g.tab.gbl _ (g.hT▸h2);intro Y s U H R I q;refine vR hg hm (k8 (PE.cw (sE a g h3)) gp n1) (ah n1) Y s U H R I ⟨_,q,λx H1 z=>?_⟩
  split at z
  .exact⟨_,rfl,z.1,z.2.1,z.2.2⟩
  .exact z.elim
 | .rng2 a b,X,S,E,g,t,e,h=>by
  sleep 4
  simp only[nl,decide_eq_true_eq]at h;obtain⟨⟨⟨⟨⟨⟨h1,rfl⟩,h2⟩,h3⟩,h4⟩,n1⟩,n2⟩:=h;obtain⟨hg,hdb⟩:=g.glob h1;obtain⟨hm,hn⟩:=g.tab.gbl _ (g.hT▸h2);intro Y s U H R I q;refine vi hg hm (k8 (PE.cw (sE a g h3)) (k8 (PE.cw (sE b g h4)) gp n2) n1) (by rw[ah n1,ah n2];rfl) (by rw[ah n2];rfl) Y s U H R I ⟨_,q,λx H1 z=>⟨_,z,λy H2 z=>?_⟩⟩
  split at z
  .exact⟨_,_,rfl,z.1,z.2⟩
  .exact z.elim
 | .rng3 a b c,X,S,E,g,t,e,h=>by cases(show false=true from h)
 | .enm a,X,S,E,g,t,e,h=>by
  sleep 4
  simp only[nl,decide_eq_true_eq]at h;obtain⟨⟨⟨⟨⟨h1,rfl⟩,h2⟩,h3⟩,n1⟩,h5⟩:=h;obtain⟨hg,hdb⟩:=g.glob h1;obtain⟨hm,hn⟩:=g.tab.gbl _ (g.hT▸h2)
  split at h5
  .intro Y s U H R I q;refine CI hg hm (k8 (PE.cw (sE a g h3)) gp n1) (ah n1) Y s U H R I ⟨_,q,λx H1 z=>?_⟩
   split at z
   .unfold C5 at z;exact⟨_,rfl,z.1,z.2⟩
   .exact z.elim
  .cases h5
 | .enf a,X,S,E,g,t,e,h=>by cases(show false=true from h)
 | .seq a,X,S,E,g,t,e,h=>by
  conv at h=>lhs;whnf
  intro Y s U H R I q;have q':wE G a U H (λx H1=>match x with| .ref p=>rX G.R.K p H1 R|_=>False) (E U):=q;rw[g.hK]at q';refine aB (sE a g h Y s U H _ I q') λv s1 ⟨x,H1,I1,r1,z⟩=>?_
  dsimp only at z
  split at z
  .unfold rX at z;rcases z with⟨⟨xs,hx⟩,z⟩|⟨⟨xs,hx⟩,z⟩
   .exact wD I1 r1 hx z
   .exact yT I1 r1 hx z
  .exact z.elim
 | .zip a b,X,S,E,g,t,e,h=>by
  sleep 4
  simp only[nl,decide_eq_true_eq]at h;obtain⟨⟨⟨⟨⟨⟨⟨h1,rfl⟩,h2⟩,h3⟩,h4⟩,n1⟩,n2⟩,h5⟩:=h;obtain⟨hg,hdb⟩:=g.glob h1;obtain⟨hm,hn⟩:=g.tab.gbl _ (g.hT▸h2)
  split at h5
  .intro Y s U H R I q;refine Fw hg hm (k8 (PE.cw (sE a g h3)) (k8 (PE.cw (sE b g h4)) gp n2) n1) (ah n1) (by rw[ah n2];rfl) Y s U H R I ⟨_,q,λx H1 z=>⟨_,z,λy H2 z=>?_⟩⟩;unfold BU at z;exact⟨_,_,rfl,g.hK▸z⟩
  .cases h5
 | .zip3 a b c,X,S,E,g,t,e,h=>by cases(show false=true from h)
termination_by structural x=>x
theorem sO:∀ (x:JQ){X:Cx}{S:Sn}{E:St->XK},Gd X G S k E->∀ {e:Option Expr},mO S x e=true->PO X e (λU H Q=>wO G x U H Q (E U))
 | .no,X,S,E,g,none,h=>Cd
 | .no,X,S,E,g,some _,h=>by cases(show false=true from h)
 | .yes x,X,S,E,g,none,h=>by cases(show false=true from h)
 | .yes x,X,S,E,g,some e,h=>by
  conv at h=>lhs;whnf
  intro Y s U H Q I q;refine C3 (PE.cw (sE x g h)) Y s U H Q I ⟨_,q,λy H1 z=>?_⟩
  split at z
  .exact⟨_,rfl,z⟩
  .exact z.elim
termination_by structural x=>x
theorem sT:∀ (x:Tx){X:Cx}{S:Sn}{E:St->XK},Gd X G S k E->∀ {e:Expr},mT S x e=true->PT X e (λU H Q=>wT G x U H Q (E U))
 | .not a,X,S,E,g,e,h=>by
  sleep 2
  exact FU (sT a g h)
 | .and a b,X,S,E,g,e,h=>by
  sleep 3
  simp only[nl]at h;exact PT.imp (EE (PT.cw (sT a g h.1)) (zO (sT b g h.2))).pt λU H Q q=>⟨_,q,λk H1 z=>by rwa [c7]at z⟩
 | .or a b,X,S,E,g,e,h=>by
  sleep 3
  simp only[nl]at h;exact PT.imp (JA (PT.cw (sT a g h.1)) (xk (sT b g h.2))).pt λU H Q q=>⟨_,q,λk H1 z=>by rwa [c7]at z⟩
 | .cmp op a b,X,S,E,g,e,h=>by
  sleep 3
  simp only[nl,decide_eq_true_eq]at h;obtain⟨⟨⟨rfl,ha⟩,hb⟩,hn⟩:=h;refine PT.imp (AH (cR.cw (g.cmp op)) (PE.cw (sE a g ha)) (PE.cw (sE b g hb)) (cV hn _)) λU H Q q=>⟨_,q,λx H1 q1=>⟨_,q1,λy H2 q2=>⟨_,q2,λz H3 q3=>?_⟩⟩⟩
  split at q3
  .exact⟨_,rfl,q3⟩
  .exact q3.elim
 | .cmp2 o1 o2 a b c,X,S,E,g,e,h=>by
  sleep 3
  simp only[nl,decide_eq_true_eq]at h;obtain⟨⟨⟨⟨⟨rfl,rfl⟩,ha⟩,hb⟩,hc⟩,hn⟩:=h;refine PT.imp (xK (cR.cw (g.cmp o1)) (cR.cw (g.cmp o2)) (PE.cw (sE a g ha)) (PE.cw (sE b g hb)) (PE.cw (sE c g hc)) (kG hn)) λU H Q q=>⟨_,q,λx H1 q1=>⟨_,q1,λy H2 q2=>⟨_,q2,λz H3 q3=>?_⟩⟩⟩
  split at q3
  .refine⟨_,rfl,?_⟩;rw[c7]at q3
   split at q3
   .rename_i hk;rw[if_pos hk];refine⟨_,q3,λw H4 q4=>⟨_,q4,λz H5 q5=>?_⟩⟩
    split at q5
    .exact⟨_,rfl,q5⟩
    .exact q5.elim
   .rename_i hk;rw[if_neg hk];exact⟨_,rfl,q3⟩
  .exact q3.elim
 | .val x,X,S,E,g,e,h=>by
  have h:(mE S x e&&plainT e)=true:=h;simp only[nl]at h;refine PT.imp (w6 (PE.cw (sE x g h.1)) (plainT_ok h.2 _)) λU H Q q=>⟨_,q,λy H1 z=>?_⟩
  exact g.hK▸Fh z
termination_by structural x=>x
theorem LF:∀ (x:gc){X:Cx}{S:Sn}{E:St->XK},Gd X G S k E->∀ {ks:List Str}{keys:List (Option Expr)}{e:List Expr}{pos:Pos},oa ks keys=true->jz S x e=true->x.len=ks.length->PQ X pos keys e (λU H R=>∃ Q,wEs G x U H Q (E U)/\∀ xs H1,xs.length=x.len->Q xs H1->R (JR ks xs) H1)
 | .nil,X,S,E,g,ks,keys,[],pos,h1,h,hl=>by
  obtain rfl:ks=[]:=List.eq_nil_of_length_eq_zero hl.symm;rw[kX h1];exact λY s U H R I ⟨Q,q,i⟩=>EI Y s U H R I (i [] H rfl q)
 | .nil,X,S,E,g,_,_,_::_,pos,h1,h,hl=>by cases(show false=true from h)
 | .cons x xs,X,S,E,g,_,_,[],pos,h1,h,hl=>by cases(show false=true from h)
 | .cons x xs,X,S,E,g,[],keys,e::es,pos,h1,h,hl=>by cases hl
 | .cons x xs,X,S,E,g,c::ks,keys,e::es,pos,h1,h,hl=>by
  have h:(mE S x e&&notStar e&&jz S xs es)=true:=h;simp only[nl]at h;obtain⟨j,p,r,rfl,h2⟩:=i5 h1;intro Y s U H R I ⟨Q,q,i⟩;refine BF xU (PE.cw (sE x g h.1.1)) (LF xs g h2 h.2 (Nat.succ.inj hl)) Y s U H R I ?_;exact⟨_,q,λy H2 z=>⟨_,z,λys H3 hy w=>i (y::ys) H3 (congrArg Nat.succ hy) w⟩⟩
termination_by structural x=>x
theorem uJ:∀ (x:gc){X:Cx}{S:Sn}{E:St->XK},Gd X G S k E->∀ {e:List Expr},jz S x e=true->PA X e (λU H Q=>wEs G x U H Q (E U))
 | .nil,X,S,E,g,[],h=>gp
 | .nil,X,S,E,g,_::_,h=>by cases(show false=true from h)
 | .cons x xs,X,S,E,g,[],h=>by cases(show false=true from h)
 | .cons x xs,X,S,E,g,e::es,h=>by
  have h:(mE S x e&&notStar e&&jz S xs es)=true:=h;simp only[nl]at h;exact k8 (sE x g h.1.1) (uJ xs g h.2) h.1.2
termination_by structural x=>x
end
end
end L3
namespace L2
open PySem PySem.Spec PyProof.Rows
variable {scope:Scope}{cl:List (Str×Addr)}{fr:List Str}{sel:List Nat}{s:Shared}
section
variable {X:Cx}
def gi {elt iter tgt:Expr}{ifs:List Expr}{xs:List Str}{y:Str}{py pos spos:Pos}{wi:TI}{tg:TG}{tc:TT}{te:TE}{ni:Nat}(hc:X.calm=true)(S:bC X scope cl xs fr sel)(hi:PI X tgt iter wi)
  (hg:∀ (s:Shared) (H:Hp) (fp:List Addr),PG (fN X scope cl (xs++fr) s H fp) tgt tg) (ht:∀ (s:Shared) (H:Hp) (fp:List Addr),JD (fN X scope cl (xs++fr) s H fp) ifs tc)
  (he:∀ (s:Shared) (H:Hp) (fp:List Addr),PE (fN X scope cl (xs++fr) s H fp) elt te) (hs:∀ x,foldedSetIterable iter X.env x=pure x) (hN:X.N.Nodup) (hni:X.N[ni]? =some y) (hy:X.env.scope.names.lookup y=some .local)
  (hsw:swapsWith (.ListComp elt [⟨tgt,iter,ifs,0⟩] scope pos) (some (.Name y py)) spos.line X.env=pure true):PS X (.Assign [.Name y py] (.ListComp elt [⟨tgt,iter,ifs,0⟩] scope pos) spos) (λD U H=>Ih wi tg tc te xs sel U H λv H1=>D.nx (U.set ni (some v)) H1):=by
 intro Y s U H DD I h;rw[exec_Assign_Name_used _ _ _ _ hsw];refine ad (wpAny_standAt (ad ?_));show wpAny _ _ (do let _ <-comprehension (.ListComp elt [⟨tgt,iter,ifs,0⟩] scope pos) scope X.env _ (newList []) false (eval iter X.env) (some (assign (.Name y py) X.env))) _ _ s;refine ad (wpAny_mono (wpAny_comprehension_free (use:=some (assign (.Name y py) X.env)) (Q:=λ_ s'=>SP X Y DD .next s') rfl hs S.clos S.kind S.names ?_) (λ_ s' hq=>am (am hq)) λ_ _ e=>e);refine aB (hi Y s U H _ I h) λv s1 h1=>aB h1 λitv s2 h2=>?_
 obtain⟨it,fp,tn,J,H2,e,I2,T,pK,f2,h2⟩:=h2;subst e;refine wpAny_newObj_type ?_;have hD:H2 s2.heap.objs.size=none:=I2.hok.fresh (re _);have I3:Inv X Y U (upd H2 s2.heap.objs.size (.lst [])) { s2 with heap:=s2.heap.push { cls:=.type "list",dict:=none,data:=.seq ([]:List Value).toArray } }:=
  I2.laid (t':=s2.toks) (λb u e=>ul _ e) (re _) ⟨Nat.zero_le _,[],0,.nil,v6 _ rfl⟩
 have fo2:∀ b ∈ fp,b<s2.heap.objs.size:=λb hb=>by
  obtain⟨o,ho,_⟩:=T.obj _ _ pK b hb;exact ut ho
 have f3:∀ b ∈ fp,iY X Y (upd H2 s2.heap.objs.size (.lst [])) b:=λb hb=>⟨by rw[ai (pi (fo2 b hb))];exact(f2 b hb).1,(f2 b hb).2⟩
 have st3:tn 0 (s2.heap.push { cls:=.type "list",dict:=none,data:=.seq ([]:List Value).toArray }):=T.keep _ _ _ pK λb hb o e=>ul _ e
 have fo3:∀ b ∈ fp,b<(s2.heap.push { cls:=.type "list",dict:=none,data:=.seq ([]:List Value).toArray }).objs.size:=λb hb=>by
  rw[Heap.size_push];exact Nat.lt_succ_of_lt (fo2 b hb)
 obtain⟨W,⟨m0,w0⟩,turn⟩:=h2 _ hD;generalize s2.heap.objs.size=D at*;generalize hs3:({ s2 with heap:=s2.heap.push { cls:=.type "list",dict:=none,data:=.seq ([]:List Value).toArray } }:Shared)=s3 at*;have st3':tn 0 s3.heap:=by rw[<-hs3];exact st3
 have fo3':∀ b ∈ fp,b<s3.heap.objs.size:=by rw[<-hs3];exact fo3
 refine wpAny_newFunctionEnv S.nocell (by intro y hy;simp at hy) (λh' hns hsb=>?_) S.kind;have keep:∀ b o,s3.heap.get? b=some o->h'.get? b=some o:=λb o e=>(hsb.2 b (pi (ut e))).trans (ul _ e)
 have I4:=qo (tk:=s3.toks+([]:List (Str×Value)).length) S I3 f3 fo3' hns keep;have st4:tn 0 h':=T.keep _ _ _ st3' λb hb o e=>keep b o e
 have stat:∀ {H':Hp},(∀ b ∈ fp,H' b=none)->∀ b ∈ fp,iY (fN X scope cl (xs++fr) s3 (upd H2 D (.lst [])) fp) (X.pn++Y) H' b:=λ{H'} hn b hb=>
  ⟨hn b hb,pi (fo3' b hb),λz=>(nb.mp (I3.iU b z)).elim (f3 b hb).2.1 (f3 b hb).2.2.1,.inl hb,λy c hy=>(f3 b hb).2.2.2.2.1 y c (S.sub y c hy),λp hp=>(f3 b hb).2.2.2.2.2 p (by simpa[fN] using hp)⟩
 have loop:codeAny (model X.prog X.w) X.A (.compLoop (.ListComp elt [⟨tgt,iter,ifs,0⟩] scope pos) 0 (.ref it) (.ref D) (compEnvC scope cl s3.heap.objs.size X.env))
   (compPost (model X.prog X.w) X.A X.xe (some (assign (.Name y py) X.env)) (λ_ s'=>SP X Y DD .next s') (.ref D) s3.heap.objs.size) { s3 with heap:=h',toks:=s3.toks+([]:List (Str×Value)).length }:=by
  refine codeAny_loop rfl (λn s'=>∃ i σ' H',Inv (fN X scope cl (xs++fr) s3 (upd H2 D (.lst [])) fp) (X.pn++Y) σ' H' s'/\tn i s'.heap/\(∀ b ∈ fp,H' b=none)/\W i n σ' H') (λn s5 hI=>?_) m0 ⟨0,_,_,I4,st4,λb hb=>(f3 b hb).1,w0⟩;show wpAny _ _ ((compTurn (.ListComp elt [⟨tgt,iter,ifs,0⟩] scope pos) 0 (.ref it) (.ref D) (compEnvC scope cl s3.heap.objs.size X.env)).onRaise (λx=>do noteFrame x (compEnvC scope cl s3.heap.objs.size X.env);theTreesLotGoes x)) _ _ s5;refine wpAny_noted ?_;refine uI (ht s3 (upd H2 D (.lst [])) fp).1 ?_;obtain⟨i,σ5,H5,I5,st5,fr5,w5⟩:=hI;rcases turn i n σ5 H5 w5 with⟨stop,q⟩|⟨go,Nn,hNn,step⟩
  .refine aB (T.done (fN X scope cl (xs++fr) s3 (upd H2 D (.lst [])) fp) rfl rfl rfl hc i _ s5 σ5 H5 _ I5 (stat fr5) st5 stop) λr s6 ⟨hr,I6⟩=>?_
   subst hr;obtain⟨m,hn,_⟩:=I6.loc;have J:Inv X Y U H5 s6:=I3.zP (ch:=fp) I6.os I6.base I6.hok I6.bare λb hb=>⟨(f3 b hb).2.2.2.1,(f3 b hb).2.1,(f3 b hb).2.2.2.2.1,(f3 b hb).2.2.2.2.2⟩
   have fC:H5 s3.heap.objs.size=none:=I6.free;have nL:s3.heap.objs.size≠X.env.locals:=Ne.symm (pi I3.lt);have nC:∀ z c,X.env.cells.lookup z=some c->c≠s3.heap.objs.size:=λz c e=>by
    obtain⟨v,o,ho,_⟩:=I3.cell z c e;exact pi (ut ho)
   show wpAny _ _ (assign (.Name y py) X.env (.ref D)) _ _ s6;refine wpAny_assign_Name (nu J hN hni (.inl hy) (v:=.ref D) rfl (λs7 J7 hsb=>?_) (.inr hy));obtain⟨a,sb,ha⟩:=hsb;have hne:s3.heap.objs.size≠a:=by
    rcases ha with ha|ha
    .rw[ha];exact nL
    .exact Ne.symm (nC _ _ ha)
   refine⟨m,hn.sameBut sb hne,λh'' hs''=>⟨_,H5,?_,q⟩⟩;exact J7.turned (h':=h'') (t':=s7.toks) (it:=s3.heap.objs.size) (λb o hb e=>(hs''.2 b hb).trans e) fC nL (.inr I3.sz) nC λp hp=>pi (ut (I3.pin p hp).1)
  .have fin:∀ {σ8:St}{H10:Hp}{s10:Shared},Inv (fN X scope cl (xs++fr) s3 (upd H2 D (.lst [])) fp) (X.pn++Y) σ8 H10 s10/\tn (i+1) s10.heap/\(∀ b ∈ fp,H10 b=none)->Nn σ8 H10->∃ m',m'<n/\∃ i σ' H',Inv (fN X scope cl (xs++fr) s3 (upd H2 D (.lst [])) fp) (X.pn++Y) σ' H' s10/\tn i s10.heap/\(∀ b ∈ fp,H' b=none)/\W i m' σ' H':=λ⟨I,t,f⟩ nn=>by
    obtain⟨m',hm,w10⟩:=hNn _ _ nn;exact⟨m',hm,i+1,_,_,I,t,f,w10⟩
   refine aB (T.item (fN X scope cl (xs++fr) s3 (upd H2 D (.lst [])) fp) rfl rfl rfl hc i _ s5 σ5 H5 _ I5 (stat fr5) st5 go) λr s6 ⟨u,hr,h6⟩=>?_
   subst hr;refine aB h6 λ_ s7 ⟨xv,H7,I7,r7,y7,st7,fr7⟩=>?_
   have I7':=I7.pinned (stat fr7) (T.obj _ _ st7);refine Dx (hg s3 _ fp _ s7 σ5 H7 xv u _ I7' r7 (step xv _ y7)) λ_ s8 ⟨σ8,H8,I8,q8⟩=>?_
   refine Dx ((ht s3 _ fp).2 _ s8 σ8 H8 _ I8 q8) λok s9 ⟨H9,I9,q9⟩=>?_
   have back:∀ {H10:Hp}{s10:Shared},Inv (fN X scope cl (xs++fr) s3 (upd H2 D (.lst [])) fp) _ σ8 H10 s10->Inv (fN X scope cl (xs++fr) s3 (upd H2 D (.lst [])) fp) (X.pn++Y) σ8 H10 s10/\tn (i+1) s10.heap/\(∀ b ∈ fp,H10 b=none):=λ{H10 s10} I10=>⟨I10.fq,T.keep _ _ _ st7 λb hb o e=>(I10.pin (b,o) (im _ (im _ (bX hb e)))).1,λb hb=>by
    obtain⟨o,e,d⟩:=T.obj _ _ st7 b hb;exact(I10.pin (b,o) (im _ (im _ (bX hb e)))).2.1⟩
   refine⟨λek=>?_,λek=>am ⟨rfl,fin (back I9) (q9.2 ek)⟩⟩;refine Dx (he s3 _ fp _ s9 _ _ _ I9 (q9.1 ek)) λuv s10 ⟨vv,H10,I10,r10,zs,hz,hzl,n10⟩=>?_
   refine Dx (i6 (X:=fN X scope cl (xs++fr) s3 (upd H2 D (.lst [])) fp) _ s10 _ H10 (.ref D) [vv] (.ref D) [uv] (λ_ H'=>H'=upd H10 D (.lst (zs++[vv]))) I10 rfl (.cons r10 .nil) ⟨D,zs,vv,rfl,rfl,hz,hzl,rfl⟩) λ_ s11 ⟨_,H11,I11,_,e11⟩=>?_
   subst e11;exact am ⟨rfl,fin (back I11) n10⟩
 exact codeAny_compStart_list loop (T.self _ 0 _ _ _ st4 loop)
def vt {elt iter:Expr}{x y:Str}{px py pos spos:Pos}{wi:TI}{te:TE}{ni:Nat}(hc:X.calm=true)(S:bC X scope cl [x] fr sel)(hi:PI X (.Name x px) iter wi)
  (he:∀ (s:Shared) (H:Hp) (fp:List Addr),PE (fN X scope cl (x::fr) s H fp) elt te) (hs:∀ x,foldedSetIterable iter X.env x=pure x) (hN:X.N.Nodup) (hni:X.N[ni]? =some y) (hy:X.env.scope.names.lookup y=some .local)
  (hsw:swapsWith (.ListComp elt [⟨.Name x px,iter,[],0⟩] scope pos) (some (.Name y py)) spos.line X.env=pure true):PS X (.Assign [.Name y py] (.ListComp elt [⟨.Name x px,iter,[],0⟩] scope pos) spos) (λD U H=>Lk wi te sel U H λv H1=>D.nx (U.set ni (some v)) H1):=λY s U H D I h=>
 gi hc S hi.up (λs H fp=>rW S) (λ_ _ _=>j8) he hs hN hni hy hsw Y s U H D I ⟨_,h,λ_ _ q=>q.g⟩
section
variable {prog:Program}{w:World}{A:Around}{E:MC}
def nh {it t:Addr}{items:Array Value}(hne:t≠it):∀ (n i:Nat) (s:Shared) (Q:List Value->Shared->Prop),s.heap.IsListIter it t i->s.heap.IsList t items->i+n<=items.size->
  (∀ h',h'.IsListIter it t (i+n)->Heap.SameBut it s.heap h'->Q ((items.toList.drop i).take n) { s with heap:=h' })->wpAny (model prog w) A (draw (.ref it) n) Q E s
 |0,i,s,Q,hit,_,_,hQ=>by
  show wpAny _ _ (pure []) Q E s;exact am (by simpa using hQ s.heap hit (Heap.SameBut.refl ..))
 |n+1,i,s,Q,hit,ht,hle,hQ=>by
  have hlt:i<items.size:=by omega
  show wpAny _ _ (pyNext (.ref it) >>= _) Q E s;refine ad (wpAny_pyNext_list_item hit ht (x:=items[i]) (by simp[hlt]) λh₁ hit₁ hs₁=>?_);refine ad (bd (nh hne n (i+1) _ _ hit₁ (ht.extBut hs₁.extBut hne) nofun λh₂ hit₂ hs₂=>am ?_));have hd:items.toList.drop i=items[i]::items.toList.drop (i+1):=by simp[List.drop_eq_getElem_cons,hlt]
  have:=hQ h₂ (by rw[show i+(n+1)=i+1+n by omega];exact hit₂) (hs₁.trans hs₂);rw[hd,List.take_succ_cons]at this;exact this
def iO {t:Addr}{items:Array Value}{Q:List Value->Shared->Prop}(hh:A.handled=none)(ht:s.heap.IsList t items)(hty:s.TypeIs (.ref t) "list")
  (hQ:∀ h',Heap.ExtBut s.heap.objs.size s.heap h'->Q items.toList { s with heap:=h' }):wpAny (model prog w) A (unpackItems (.ref t) items.size none) Q E s:=by
 have hlt:t≠s.heap.objs.size:=by obtain⟨o,ho,_⟩:=id ht;exact pi (ut ho)
 unfold unpackItems;refine ad ?_
 .unfold notIterableAtAll;refine ad (wpAny_specialOf hty PySem.F.slot_list_iter.lookup ?_);refine am ?_;simp only[Bool.false_eq_true,if_false];refine ad (bd (wpAny_pyIter_list ht ?_));refine ad (bd (nh hlt items.size 0 _ _ ⟨_,v6 _ rfl,rfl,rfl⟩ (ht.push _) nofun λh₁ hit₁ hs₁=>?_));have hall:List.take items.size (List.drop 0 items.toList)=items.toList:=by
   rw[drop_zero];exact take_of_length_le (by simp)
  rw[hall];rw[if_neg (by simp)];have ht₁:h₁.IsList t items:=(ht.push _).extBut hs₁.extBut hlt;refine ad (bd (wpAny_pyNext_list_end hh hit₁ ht₁ (by simp) λh₂ he₂=>?_));simp only[Option.isSome_none,Bool.false_eq_true,if_false];refine am (hQ h₂ λb o hb e=>he₂ b o hb (hs₁.extBut b o hb (ul _ e)))
end
def EO {es:List Expr}{k:Nat}{pos:Pos}{t:A7}{n:Nat}(hc:X.calm=true)(h:GP X es t)
  (hn:(assignEach es X.env).length=n) (hst:(assignEach es X.env).findIdx? (·.1)=none){Y:MD}{U:St}{H:Hp}{a:Addr}{u:Value}{xs:List V}{Q:St->Hp->Prop}(I:Inv X Y U H s) (r:RelV (.ref a) u)
  (hq:aU X.K H a xs) (hl:xs.length=n) (hw:t xs U H Q):wpAny (model X.prog X.w) X.A (assign (.Tuple es k pos) X.env u) (λ_ s'=>∃ σ' H',Inv X Y σ' H' s'/\Q σ' H') X.xe s:=by
 cases r;obtain⟨its,rv,p,hz⟩:=I.list hq;rw[assign_Tuple];refine ad (wpAny_standAt ?_);unfold unpack;have e1:(assignEach es X.env).length=its.toArray.size:=by
  rw[hn,<-hl];simp[rv.length]
 rw[e1,hst];refine ad (bd (iO (I.ok.hd hc) p.isList p.isList.typeIs λh' hx=>?_));have I1:Inv X Y U H { s with heap:=h' }:=I.kept (t':=s.toks) λb o e=>hx b o (pi (ut e)) e
 exact h Y _ U H xs _ Q I1 (by simpa using rv) hw
end
end L2
namespace L3
open PySem PySem.Spec L2
set_option maxHeartbeats 2000000
abbrev DC:Expr->Bool
 | .Tuple ..=>false
 |_=>true
abbrev wV (S:Sn):List Nat->List Expr->Bool
 | [],[]=>true
 |i::is,.Name x _::r=>S.loc i x&&wV S is r
 |_,_=>false
abbrev Kp (S:Sn):JJ->Expr->Bool
 | .nm i,e=>match e with| .Name x _=>S.loc i x|_=>false
 | .tp is,e=>match e with| .Tuple ts _ _=>wV S is ts|_=>false
 | .nt i is,e=>match e with| .Tuple y1 _ _=>(match y1 with| [y2,y3]=>(match y2 with| .Name x _=>(match y3 with| .Tuple ts _ _=>S.loc i x&&wV S is ts|_=>false)|_=>false)|_=>false)|_=>false
abbrev Sn.rP (S:Sn)(i:Nat)(x:Str):Bool:=decide (S.N[i]? =some x)&&decide (S.sc.names.lookup x=some .local)
abbrev Jp (S:Sn)(is:List Nat)(ts:List Expr):Bool:=match is with
 | [i,j]=>(match ts with| [a,b]=>(match a with| .Name x _=>(match b with| .Name y _=>S.rP i x&&(S.rP j y&&decide (i≠j))|_=>false)|_=>false)|_=>false)
 | [i,j,l]=>(match ts with| [a,b,c]=>(match a with| .Name x _=>(match b with| .Name y _=>(match c with| .Name z _=>S.rP i x&&(S.rP j y&&(S.rP l z&&(decide (i≠j)&&(decide (i≠l)&&decide (j≠l)))))|_=>false)|_=>false)|_=>false)|_=>false)
 |_=>false
mutual
noncomputable def mS (S:Sn):Sx->Stmt->Bool
 | .asg i e,s=>match s with| .Assign y1 e' _=>(match y1 with| [y2]=>(match y2 with| .Name x _=>S.loc i x&&mE S e e'|_=>false)|_=>false)|_=>false
 | .asgT is e,s=>match s with| .Assign y1 e' _=>(match y1 with| [y2]=>(match y2 with| .Tuple ts _ _=>wV S is ts&&mE S e e'&&DC e'|_=>false)|_=>false)|_=>false
 | .par is es,s=>match s with| .Assign y1 y2 _=>(match y1 with| [y3]=>(match y3 with| .Tuple ts kt pt=>(match y2 with| .Tuple vs k2 p2=>Jp S is ts&&jz S es vs&&FJ S.sc (.Tuple ts kt pt) (.Tuple vs k2 p2) (is.filterMap λi=>S.N[i]?)|_=>false)|_=>false)|_=>false)|_=>false
 | .sub o i v,s=>match s with| .Assign y1 v' _=>(match y1 with| [y2]=>(match y2 with| .Subscript o' i' _=>mE S o o'&&mE S i i'&&mE S v v'&&fB i'|_=>false)|_=>false)|_=>false
 | .fld o f v,s=>match s with| .Assign y1 v' _=>(match y1 with| [y2]=>(match y2 with| .Attribute o' f' _=>mE S o o'&&decide (f=f')&&mE S v v'|_=>false)|_=>false)|_=>false
 | .aug i op e,_=>false
 | .augS o i op e,s=>match s with| .AugAssign y1 op' e' _=>(match y1 with| .Subscript o' i' _=>mE S o o'&&mE S i i'&&decide (op=op')&&mE S e e'&&fB i'|_=>false)|_=>false
 | .ret e,s=>match s with| .Return y1 _=>(match y1 with|some e'=>mE S e e'|_=>false)|_=>false
 | .retN,_=>false
 | .pass,_=>false
 | .brk,_=>false
 | .cont,_=>false
 | .expr e,s=>match s with| .Expr e' _=>mE S e e'&&sF e'|_=>false
 | .ife c a b,s=>match s with| .If c' a' b' _=>mT S c c'&&mB S a a'&&mB S b b'|_=>false
 | .whl c b,_=>false
 | .for t it b,s=>match s with| .For t' it' b' y1 _=>(match y1 with| []=>Kp S t t'&&mI S it t' it'&&mB S b b'&&cH it'|_=>false)|_=>false
 | .rais e,s=>match s with| .Raise y1 y2 _=>(match y1 with|some e'=>(match y2 with|none=>mE S e e'|_=>false)|_=>false)|_=>false
 | .tryx b hs,s=>match s with| .Try b' y1 y2 y3 _=>(match y1 with|h0::hs'=>(match y2 with| []=>(match y3 with| []=>mB S b b'&&mH S hs (h0::hs')|_=>false)|_=>false)|_=>false)|_=>false
noncomputable def mB (S:Sn):lY->List Stmt->Bool
 | .nil,l=>l.isEmpty
 | .cons s r,l=>match l with|s'::r'=>mS S s s'&&mB S r r'| []=>false
noncomputable def mH (S:Sn):Ay->List ExceptHandler->Bool
 | .nil,l=>l.isEmpty
 | .cons c i b hs,l=>match l with| .ExceptHandler (some (.Name x _)) (some n) (b0::bs) _::r=>S.pL x&&decide (S.T.gcl.lookup x=some c)&&decide (S.N[i]? =some n)&&decide (S.sc.names.lookup n=some .local)&&mB S b (b0::bs)&&mH S hs r|_=>false
end
structure Gs (X:Cx) (G:Gx) (S:Sn) (k:Nat) (E:St->XK):Prop extends Gd X G S k E where
 xok:G.cm=true->GV X E
 own:PassesOwn (model X.prog X.w) X.A X.env X.xe
 stk:X.stack=X.env::X.outer
 fr:X.env.frame=some X.env.locals
 fn:∀ x,X.fn x=true
variable {e elt:Expr}{ts:List Expr}{p:Pos}{gs:List Comprehension}{scope:Scope}
section
variable {X:Cx}{G:Gx}{S:Sn}{k:Nat}{E:St->XK}
def Gs.gf (g:Gs X G S k E){Y:MD}{xe:MC}{E':St->XK}(hx:GV (X.gf Y xe) E')(ho:PassesOwn (model X.prog X.w) X.A X.env xe):Gs (X.gf Y xe) G S k E' where
 hK:=g.hK
 hT:=g.hT
 sc:=g.sc
 N:=g.N
 nd:=g.nd
 pass:=mP hx
 cm:=g.cm
 room:=g.room
 un:=g.un
 tab:=g.tab
 fns:=g.fns
 xok:=λ_=>hx
 own:=ho
 stk:=g.stk
 fr:=g.fr
 fn:=g.fn
def Gs.bM (g:Gs X G S k E)(e:Value):Gs (X.bM e) { G with cm:=false } S k (λ_ _ _=>False) where
 hK:=g.hK
 hT:=g.hT
 sc:=g.sc
 N:=g.N
 nd:=g.nd
 pass:=λY U H s e s' I h=>by
  obtain⟨e,H',C,dx,fs,T,_,_,_,_,_,_,_,_,_,q⟩:=h;exact q.elim
 cm:=λz=>by cases z
 room:=λz=>by cases z
 un:=g.un
 tab:=g.tab
 fns:=g.fns
 xok:=λz=>by cases z
 own:=PassesOwn.never
 stk:=g.stk
 fr:=g.fr
 fn:=g.fn
def kK (env:Env):∀ {is:List Nat}{ts:List Expr},wV S is ts=true->(assignEach ts env).length=is.length/\(assignEach ts env).findIdx? (·.1)=none
 | [],[],_=>⟨rfl,rfl⟩
 | [],_::_,h=>by simp[wV]at h
 |_::_,[],h=>by simp[wV]at h
 |i::is,t::ts,h=>by
  cases t<;>simp[wV]at h
  rename_i x p;obtain⟨h1,h2⟩:=kK env h.2;have e:assignEach (.Name x p::ts) env=(false,assign (.Name x p) env)::assignEach ts env:=rfl;rw[e];refine⟨by simp[h1],?_⟩;rw[List.findIdx?_cons];simp[h2]
def pE (g:Gs X G S k E):∀ {is:List Nat}{ts:List Expr},wV S is ts=true->GP X ts (gl is)
 | [],[],_=>λY s U H vs us Q I r h=>oE Y s U H vs us Q I r ⟨length_eq_zero_iff.mp h.1,by
   have:=h.2;have e:vs=[]:=length_eq_zero_iff.mp h.1;subst e;exact this⟩
 | [],_::_,h=>by simp[wV]at h
 |_::_,[],h=>by simp[wV]at h
 |i::is,t::ts,h=>by
  cases t<;>simp[wV]at h
  rename_i x p;obtain⟨hi,hx⟩:=g.loc h.1;have h1:PG X (.Name x p) (iq i):=iD (by rw[g.N];exact g.nd) hi hx (.inl (g.fn x));have h2:=pE g h.2;intro Y s U H vs us Q I r q;refine iA h1 h2 rfl Y s U H vs us Q I r ?_;obtain⟨hl,q⟩:=q;cases vs with
  |nil=>simp at hl
  |cons v vs=>exact⟨v,vs,rfl,by simpa using hl,q⟩
def Ds (g:Gs X G S k E)(hc:G.cm=true){t:JJ}(h:Kp S t e=true):PG X e (λv U H Q=>wG U t G.R.K v H λσ1=>Q σ1 H):=by
 cases t with
 |nm i=>
  conv at h=>lhs;whnf
  split at h
  .obtain⟨hi,hx⟩:=g.loc h;exact iD (by rw[g.N];exact g.nd) hi hx (.inl (g.fn _))
  .cases h
 |tp is=>
  conv at h=>lhs;whnf
  split at h
  .intro Y s U H v u Q I r q;obtain⟨a,xs,rfl,hq,hl,q⟩:=q;obtain⟨e1,e2⟩:=kK X.env h;rw[g.hK]at hq;rcases hq with hq|hq
   .exact ou (g.cm hc) (pE g h) e1 e2 Y s U H _ u Q I r ⟨a,xs,rfl,hq,hl,hl,q⟩
   .exact EO (g.cm hc) (pE g h) e1 e2 I r hq hl ⟨hl,q⟩
  .cases h
 |nt i is=>
  conv at h=>lhs;whnf
  split at h
  .split at h
   .split at h
    .split at h
     .intro Y s U H v u Q I r q;simp only[nl]at h;obtain⟨a,y,b,ys,rfl,hq,hb,hl,q⟩:=q;obtain⟨e1,e2⟩:=kK X.env h.2;obtain⟨hi,hx⟩:=g.loc h.1;rw[g.hK]at hq hb;refine ou (n:=2) (g.cm hc) (iA (iD (by rw[g.N];exact g.nd) hi hx (.inl (g.fn _))) (iA (ou (g.cm hc) (pE g h.2) e1 e2) oE rfl) rfl) rfl rfl Y s U H _ u Q I r ⟨a,_,rfl,hq,rfl,y,_,rfl,.ref b,_,rfl,b,ys,rfl,hb,hl,hl,rfl,q⟩
     .cases h
    .cases h
   .cases h
  .cases h
def fv {kk:Nat}(n:Nat)(env:Env):swapsWithSole [.Tuple ts kk p] e n env=pure false:=by
 cases e<;>rfl
def vz {o i:Expr}(n:Nat)(env:Env):swapsWithSole [.Subscript o i p] e n env=pure false:=by
 cases e<;>rfl
def vV {o:Expr}{f:Str}(n:Nat)(env:Env):swapsWith e (some (.Attribute o f p)) n env=pure false:=by
 cases e<;>rfl
def tM {kk:Nat}(env:Env)(h:DC e=true):swappedStores [.Tuple ts kk p] e env=pure none:=by
 cases e<;>first|rfl|cases h
def rY {o i:Expr}(env:Env):swappedStores [.Subscript o i p] e env=pure none:=by
 cases e<;>rfl
def sC {o i:Expr}{pos:Pos}{env:Env}(h:fB i=true):∀ v,assign (.Subscript o i pos) env v=(do
   let ov <-holding [v] (eval o env)
   let iv <-holding [v,ov] (eval i env)
   standAt pos
   holding [v,ov,iv] (setItem ov iv v)
   release [v,ov,iv] []):=by
 intro v;cases i<;>first|rfl|cases h
def Dh {i:Expr}(h:fB i=true):∀ ov iv new,augStore i ov iv new=(do holding [new,ov,iv] (setItem ov iv new);release [new,ov,iv] [];pure .next):=by
 intro ov iv new;cases i<;>first|rfl|cases h
def ID (op:Operator):JX X op (Kz op):=by
 intro Y s U H x y v u Q I r1 r2 h;unfold Kz at h
 split at h
 .exact F3 Y s U H _ _ v u Q I r1 r2 ⟨_,_,rfl,rfl,h⟩
 .exact F8 Y s U H _ _ v u Q I r1 r2 ⟨_,_,rfl,rfl,h⟩
 .exact h.elim
def Fc (g:Gd X G S k E):Ef X (zV G.R.K):=by
 intro Y s U H x y v u Q I r1 r2 h;unfold zV at h;rw[g.hK]at h
 split at h
 .obtain⟨xs,w,h1,h2,h3,q⟩:=h;exact ye Y s U H _ _ v u Q I r1 r2 ⟨_,xs,_,w,rfl,rfl,h1,h2,h3,q⟩
 .exact h.elim
def tN {py:Pos}{y:Str}{n:Nat}{env:Env}(hk:env.scope.kind=.function):∃ b,swapsWith (.ListComp elt gs scope p) (some (.Name y py)) n env=pure b/\(b=true->env.scope.names.lookup y=some .local):=by
 refine⟨_,rfl,λh=>?_⟩;simp only[nl]at h;have:=h.1.1.2;exact beq_iff_eq.mp this
end
set_option maxHeartbeats 2000000
variable {S:Sn}{α:Type}
section
variable {k:Nat}
def IP {x:Ex}(h:mE S x (.ListComp elt gs scope p)=true):(∃ e' sel it y py iter,x=.lc e' sel it/\gs=[⟨.Name y py,iter,[],0⟩]/\
  gu S scope [y] sel=true/\mI S it (.Name y py) iter=true/\mE { S with sc:=dQ S.sc scope,N:=y::sel.filterMap λi=>S.N[i]? } e' elt=true/\cH iter=true)\/
  (∃ e' c sel it y py iter c',x=.lci e' c sel it/\gs=[⟨.Name y py,iter,[c'],0⟩]/\
  gu S scope [y] sel=true/\mI S it (.Name y py) iter=true/\mE { S with sc:=dQ S.sc scope,N:=y::sel.filterMap λi=>S.N[i]? } e' elt=true/\mT { S with sc:=dQ S.sc scope,N:=y::sel.filterMap λi=>S.N[i]? } c c'=true/\cH iter=true)\/
  ∃ e' n sel it ts kt pt iter,x=.lct e' n sel it/\gs=[⟨.Tuple ts kt pt,iter,[],0⟩]/\
  gu S scope (CV ts) sel=true/\wU { S with sc:=dQ S.sc scope,N:=CV ts++sel.filterMap λi=>S.N[i]? } (List.range n) ts=true/\(CV ts).length=n/\mI S it (.Tuple ts kt pt) iter=true/\mE { S with sc:=dQ S.sc scope,N:=CV ts++sel.filterMap λi=>S.N[i]? } e' elt=true/\cH iter=true:=by
 cases x<;>(try (cases(show false=true from h);done))
 all_goals (conv at h=>lhs;whnf)
 all_goals (iterate 5 (split at h<;>first|(cases h;done)|skip))
 all_goals (simp only[nl,decide_eq_true_eq]at h)
 all_goals first
  |exact .inl ⟨_,_,_,_,_,_,rfl,rfl,h.1.1.1,h.1.1.2,h.1.2,h.2⟩
  |exact .inr (.inl ⟨_,_,_,_,_,_,_,_,rfl,rfl,h.1.1.1.1,h.1.1.1.2,h.1.1.2,h.1.2,h.2⟩)
  |exact .inr (.inr ⟨_,_,_,_,_,_,_,_,rfl,rfl,h.1.1.1.1.1,h.1.1.1.1.2,h.1.1.1.2,h.1.1.2,h.1.2,h.2⟩)
def tE (e:Expr){x:Ex}(h:mE S x e=true):sF e=true\/∃ elt gs scope p,e=.ListComp elt gs scope p:=by
 cases e<;>first|exact .inl rfl|exact .inr ⟨_,_,_,_,rfl⟩|(cases x<;>cases(show false=true from h))
def Ht {G:Gx}{X:Cx}{E:St->XK}(g:Gs X G S k E){i:Nat}{x:Str}{e:Ex}{e':Expr}{px:Pos}(hx:S.loc i x=true)(h:mE S e e'=true):PS X (.Assign [.Name x px] e' p) (λD U H=>wS (.asg i e) G D E U H):=by
 obtain⟨hi,hl⟩:=g.loc hx;have hN:X.N.Nodup:=by rw[g.N];exact g.nd
 rcases tE e' h with hn|⟨elt,gs,scope,pp,rfl⟩
 .exact yh hN hi hl (sE e g.toGd h) (il hn _ _ _) (.inl (g.fn x))
 .intro Y s U H D I q;obtain⟨b,hb,hb2⟩:=tN (elt:=elt) (gs:=gs) (scope:=scope) (p:=pp) (py:=px) (y:=x) (n:=p.line) (env:=X.env) I.ok.kind;cases b with
  |false=>exact yh hN hi hl (sE e g.toGd h) hb (.inl (g.fn x)) Y s U H D I q
  |true=>
   rcases IP h with⟨e2,sel,it,y,py,iter,rfl,rfl,h1,h2,h3,h4⟩|⟨e2,c,sel,it,y,py,iter,c',rfl,rfl,h1,h2,h3,h5,h4⟩|⟨e2,n,sel,it,ts,kt,pt,iter,rfl,rfl,h1,h5,h6,h2,h3,h4⟩
   .obtain⟨hc,q⟩:=(show G.cm=true/\wI G it U H (λJ H1=>zS (λσ' H' Q'=>wE G e2 σ' H' Q' (λ_ _=>False)) J (none::hR U sel) H1 (λx H1=>D.nx (U.set i (some x)) H1)) (E U) from q);rw[w9]at q;obtain⟨cl,C⟩:=cE g.toGd I.ok h1;exact vt (g.cm hc) C (sI it g.toGd h2) (λs H fp=>sE e2 (g.toGd.comp C s H fp) h3) (bV h4 _) hN hi (hb2 rfl) hb Y s U H D I q
   .cases(show false=true from h)
   .obtain⟨hc,q⟩:=(show G.cm=true/\wI G it U H (λJ H1=>LCt G.R.K n (λσ' H' Q'=>wE G e2 σ' H' Q' (λ_ _=>False)) J (sK n none++hR U sel) H1 (λx H1=>D.nx (U.set i (some x)) H1)) (E U) from q);rw[An,<-uo h6]at q;obtain⟨cl,C⟩:=cE g.toGd I.ok h1;exact gi (g.cm hc) C (sI it g.toGd h2) (λs H fp=>uS (g.toGd.comp C s H fp) hc h5) (λs H fp=>j8) (λs H fp=>sE e2 (g.toGd.comp C s H fp) h3) (bV h4 _) hN hi (hb2 rfl) hb Y s U H D I q
def BP {xs:List α}{i j:Nat}(h:xs.length=[i,j].length):∃ a b,xs=[a,b]:=by
 match xs,h with
 | [a,b],_=>exact⟨a,b,rfl⟩
def wy {xs:List α}{i j l:Nat}(h:xs.length=[i,j,l].length):∃ a b c,xs=[a,b,c]:=by
 match xs,h with
 | [a,b,c],_=>exact⟨a,b,c,rfl⟩
mutual
theorem sS:∀ (x:Sx){G:Gx}{X:Cx}{S:Sn}{E:St->XK},Gs X G S k E->∀ {st:Stmt},mS S x st=true->PS X st (λD U H=>wS x G D E U H)
 | .asg i e,G,X,S,E,g,st,h=>by
  sleep 3
  simp only[nl]at h;exact Ht g h.1 h.2
 | .asgT is e,G,X,S,E,g,st,h=>by
  sleep 3
  simp only[nl]at h;obtain⟨⟨h1,h2⟩,h3⟩:=h;intro Y s U H D I q;obtain⟨hc,q⟩:=(show G.cm=true/\wE G e U H (λx H1=>wG U (.tp is) G.R.K x H1 λσ1=>D.nx σ1 H1) (E U) from q);exact zF (sE e g.toGd h2) (Ds g hc (t:=.tp is) (by simp only[Kp];exact h1)) (fv _ _) (tM _ h3) rfl Y s U H D I q
 | .par is es,G,X,S,E,g,st,h=>by
  sleep 4
  rename_i pos _ _ ts kt pt _ vs k2 p2;simp only[nl]at h;obtain⟨⟨h1,h2⟩,h3⟩:=h;intro Y s U H D I q;obtain⟨hc,q⟩:=(show G.cm=true/\wEs G es U H (λxs H1=>xs.length=is.length/\D.nx (vB U is xs) H1) (E U) from q);have hN:X.N.Nodup:=by rw[g.N];exact g.nd
  rw[<-g.sc]at h3;unfold Jp at h1
  split at h1
  .iterate 3 (split at h1;rotate_left;cases h1)
   rename_i i j _ _ x px _ y py;simp only[Sn.rP,nl,decide_eq_true_eq]at h1;obtain⟨⟨a1,a2⟩,⟨b1,b2⟩,c1⟩:=h1;rw[filterMap_cons,a1,filterMap_cons,b1,List.filterMap_nil]at h3;obtain⟨v1,v2,rfl⟩:=Bc h3;rw[<-g.N]at a1 b1;rw[<-g.sc]at a2 b2;exact Cs (g.cm hc) hN a1 b1 c1 a2 b2 (PA.cw (uJ es g.toGd h2)) (zI h3) (fv _ _) Y s U H D I ⟨_,q,λxs H1 z=>by
    obtain⟨z1,z2⟩:=z;obtain⟨u1,u2,rfl⟩:=BP z1;exact⟨u1,u2,rfl,z2⟩⟩
  .iterate 4 (split at h1;rotate_left;cases h1)
   rename_i i j l _ _ x px _ y py _ z pz;simp only[Sn.rP,nl,decide_eq_true_eq]at h1;obtain⟨⟨a1,a2⟩,⟨b1,b2⟩,⟨d1,d2⟩,c1,c2,c3⟩:=h1;rw[filterMap_cons,a1,filterMap_cons,b1,filterMap_cons,d1,List.filterMap_nil]at h3;obtain⟨v1,v2,v3,rfl⟩:=vx h3;rw[<-g.N]at a1 b1 d1;rw[<-g.sc]at a2 b2 d2;exact Ci (g.cm hc) hN a1 b1 d1 c1 c2 c3 a2 b2 d2 (PA.cw (uJ es g.toGd h2)) (zI h3) (fv _ _) Y s U H D I ⟨_,q,λxs H1 z=>by
    obtain⟨z1,z2⟩:=z;obtain⟨u1,u2,u3,rfl⟩:=wy z1;exact⟨u1,u2,u3,rfl,z2⟩⟩
  .cases h1
 | .sub o i v,G,X,S,E,g,st,h=>by
  sleep 3
  simp only[nl]at h;obtain⟨⟨⟨h1,h2⟩,h3⟩,h4⟩:=h;exact zF (sE v g.toGd h3) (FP (sE o g.toGd h1) (sE i g.toGd h2) (vd g.un) (sC h4)) (vz _ _) (rY _) rfl
 | .fld o f v,G,X,S,E,g,st,h=>by
  sleep 3
  simp only[nl,decide_eq_true_eq]at h;obtain⟨⟨h1,rfl⟩,h3⟩:=h;intro Y s U H D I q;have q':wE G v U H (λy H1=>wE G o U H1 (λx H2=>Bt G f x y H2 (λH3=>D.nx U H3)) (E U)) (E U):=q;refine plainObj_wpAny_Assign_Attribute (aB (sE v g.toGd h3 Y s U H _ I q') λu s1 ⟨y,H1,I1,ry,q⟩=>aB (sE o g.toGd h1 Y s1 U H1 _ I1 q) λov s2 ⟨x,H2,I2,rx,q2⟩=>?_) (vV _ _);unfold Bt at q2;obtain⟨a,i,rfl,hna,q2⟩:=q2;obtain rfl:ov=Value.ref a:=rx;have n:=g.tab.na i f hna;rcases q2 with⟨dx,fs,ho,ea,l,q2⟩|⟨d,fs,fr,ho,ea,l,q2⟩|⟨fr,ho,ea,q2⟩
  .exact tG I2 ea (g.tab.oc i ho).1 n l ry λs3 I3=>⟨U,_,I3,q2⟩
  .exact tj I2 ea (g.tab.xc i ho).1 n l ry λs3 I3=>⟨U,_,I3,q2⟩
  .exact sX I2 ea (g.tab.xc i ho).1 n ry λd s3 hd I3=>⟨U,_,I3,q2 d hd⟩
 | .aug i op e,G,X,S,E,g,st,h=>by cases(show false=true from h)
 | .augS o i op e,G,X,S,E,g,st,h=>by
  sleep 2
  simp only[nl,decide_eq_true_eq]at h;obtain⟨⟨⟨⟨h1,h2⟩,rfl⟩,h3⟩,h4⟩:=h;exact BQ (sE o g.toGd h1) (sE i g.toGd h2) (Fc g.toGd) (sE e g.toGd h3) (ID op) (vd g.un) (Dh h4)
 | .ret e,G,X,S,E,g,st,h=>by
  sleep 2
  exact Ez (sE e g.toGd h)
 | .retN,G,X,S,E,g,st,h=>by cases(show false=true from h)
 | .pass,G,X,S,E,g,st,h=>by cases(show false=true from h)
 | .brk,G,X,S,E,g,st,h=>by cases(show false=true from h)
 | .cont,G,X,S,E,g,st,h=>by cases(show false=true from h)
 | .expr e,G,X,S,E,g,st,h=>by
  sleep 1
  simp only[nl]at h;exact AL (sE e g.toGd h.1) (il h.2 _ _ _)
 | .ife c a b,G,X,S,E,g,st,h=>by
  sleep 1
  simp only[nl]at h;exact PS.imp (Jd (PT.cw (sT c g.toGd h.1.1)) (sB a g h.1.2) (sB b g h.2)) λD U H q=>⟨_,q,λk H1 z=>by rwa [c7]at z⟩
 | .whl c b,G,X,S,E,g,st,h=>by cases(show false=true from h)
 | .for t it b,G,X,S,E,g,st,h=>by
  sleep 2
  simp only[nl]at h;obtain⟨⟨⟨h1,h2⟩,h3⟩,h4⟩:=h;intro Y s U H D I q
  conv at q=>whnf
  obtain⟨hc,q⟩:=q;unfold lW at q;exact F0 g.own (g.cm hc) (sI it g.toGd h2) (Ds g hc h1) (sB b g h3) (bV h4 _) Y s U H D I q
 | .rais e,G,X,S,E,g,st,h=>by
  sleep 3
  intro Y s U H D I q
  conv at q=>whnf
  obtain⟨hc,q⟩:=q;refine yb (g.xok hc) (g.cm hc) (PE.cw (sE e g.toGd h)) Y s U H D I ⟨_,q,λv H1 z=>?_⟩;obtain⟨a,i,dx,fs,ev,ea,hi,q⟩:=z;exact⟨a,_,dx,fs,ev,ea,(g.tab.xc i hi).1,q⟩
 | .tryx b hs,G,X,S,E,g,st,h=>by
  sleep 4
  simp only[nl]at h;intro Y s U H D I q;obtain⟨hc,q⟩:=(show G.cm=true/\wB b G D (λσ' e H'=>wH hs G D σ' e H') U H from q);refine Ew (E':=λσ' e H'=>wH hs G D σ' e H') I g.stk g.fr (λxe hx ho=>?_) λσ' H' s' e C dx fs T J he hT hH hp st q'=>?_
  .exact sB b (g.gf hx ho) h.1 [] s U H D (I.gf xe) q
  .exact sH hs g h.2 J he hT hH hp st q'
theorem sB:∀ (x:lY){G:Gx}{X:Cx}{S:Sn}{E:St->XK},Gs X G S k E->∀ {st:List Stmt},mB S x st=true->Dm X st (λD U H=>wB x G D E U H)
 | .nil,G,X,S,E,g,[],h=>CY
 | .nil,G,X,S,E,g,_::_,h=>by cases(show false=true from h)
 | .cons x xs,G,X,S,E,g,[],h=>by cases(show false=true from h)
 | .cons x xs,G,X,S,E,g,st::sts,h=>by
  have h:(mS S x st&&mB S xs sts)=true:=h;simp only[nl]at h;exact yG (sS x g h.1) (sB xs g h.2)
theorem sH:∀ (x:Ay){G:Gx}{X:Cx}{S:Sn}{E:St->XK},Gs X G S k E->∀ {hs:List ExceptHandler},mH S x hs=true->∀ {Y:MD}{U:St}{H:Hp}{s:Shared}{e C:Addr}{dx:Option Addr}{fs:List (Str×V)}{T:Addr}{D:Ends},
  L2.Inv X Y U H s->H e=some (.exc C dx fs false)->X.s₀.heap.objs.size<=T->H T=none->(∀ p ∈ X.pn++Y,p.1≠T)->Av s.heap e T .none->wH x G D U e H->wpAny (model X.prog X.w) X.A (handleBy (.ref e) X.env hs) (SP X Y D) X.xe s
 | .nil,G,X,S,E,g,hs,h,Y,U,H,s,e,C,dx,fs,T,D,I,he,hT,hH,hp,st,q=>by
  simp only[wH]at q
 | .cons c i b hs,G,X,S,E,g,l,h,Y,U,H,s,e,C,dx,fs,T,D,I,he,hT,hH,hp,st,q=>by
  conv at h=>lhs;whnf
  split at h
  .simp only[nl,decide_eq_true_eq]at h;obtain⟨⟨⟨⟨⟨h1,h2⟩,h3⟩,h4⟩,h5⟩,h6⟩:=h;obtain⟨hg,hdb⟩:=g.glob h1;have hm:=g.tab.gcl _ _ (g.hT▸h2);obtain⟨j,dx',fs',kk,he',hxc,hsub,q⟩:=(show ∃ j dx fs k,H e=some (.exc (G.R.cad j) dx fs false)/\G.T.xc.contains j=true/\G.T.sub.lookup (j,c)=some k/\_ from q);have ee:=he.symm.trans he'
   injection ee with ee
   injection ee with e1 e2 e3 e4
   subst e1;obtain⟨_,hs2⟩:=g.tab.sub j c kk hsub;obtain⟨hs3,hs4⟩:=hs2 hxc;refine qD (i:=i) I he hT hH hp st (g.tab.xc j hxc).1 hs4 hs3 hg hm (by rw[g.N];exact g.nd) (by rw[g.N];exact h3) (by rw[g.sc];exact h4) hdb (λhk s2 J=>?_) λhk=>?_
   .rw[hk]at q;unfold i7 at q;exact sB b (g.bM (.ref e)) h5 Y s2 _ H _ J q
   .rw[hk]at q;unfold i7 at q;exact sH hs g h6 I he hT hH hp st q
  .cases h
end
end
abbrev c6 (T:Tab)(R:Rt):Nat->Nat->Sp
 |0,_=>λ_ _ _ _=>False
 |k+1,f=>λvs H Q E=>match T.fns[f]? with
  |some d=>vs.length=d.ps.length/\wB d.body ⟨T,R,c6 T R k,true⟩ { nx:=λ_ H'=>Q .non H',rt:=Q } (λ_=>E) (start d.N vs) H
  |none=>False
structure vQ (K:W.Frag) (T:Tab) (f:Addr) (d:aq):Prop where
 ex:∃ (name qual:Str) (params:Arguments) (body:List Stmt) (scope:Scope) (dV kV doc pm cdv ct oc:Value) (od an:Option Addr) (osl:Array (Option Value)),
  K.lookup f=some ⟨oc,od,.func (W.fnOf name qual params body scope dV kV doc pm an cdv ct),osl⟩/\W.codeIn K cdv qual=true/\ki d.N d.ps scope/\mB ⟨T,scope,d.N⟩ d.body body=true/\
  ∀ j,∃ ds,Binds K (W.fnOf name qual params body scope dV kV doc pm an cdv ct) d.ps ds/\Vals (d.dfl.drop j) ds
def yX {P:Program}{w:World}{K:W.Frag}{mg:ME}{base:Heap}{T:Tab}{R:Rt}(tab:BW K mg T R)(hK:R.K=K)(fs:∀ f d,T.fns[f]? =some d->vQ K T (R.fad f) d):
  ∀ (k f:Nat) (d:aq),T.fns[f]? =some d->xi P w K mg base (2*k) (R.fad f) d (c6 T R k f)
 |0,f,d,hd=>by
  obtain⟨name,qual,params,body,scope,dV,kV,doc,pm,cdv,ct,oc,od,an,osl,lk,hcd,S,hm,hb⟩:=(fs f d hd).ex;exact⟨⟨_,⟨λ_ _ _ _ h=>h.elim,λ_ _ _ _ _ _ _ _ _ _ _ _ _ h=>h.elim⟩,hb⟩,λ_ _ _ _ _=>⟨λ_ _ _ _ h=>h.elim,λ_ _ _ _ _ _ _ _ _ _ _ _ _ h=>h.elim⟩⟩
 |k+1,f,d,hd=>by
  obtain⟨name,qual,params,body,scope,dV,kV,doc,pm,cdv,ct,oc,od,an,osl,lk,hcd,S,hm,hb⟩:=(fs f d hd).ex;have F:=HY (P:=P) (w:=w) (mg:=mg) (base:=base) (CX:=xE P w) (k:=2*k+1) (sp:=c6 T R (k+1) f) lk hcd S (λvs H Q E h=>?_) (λA outer s H vs Q E hr h=>?_)
  .refine⟨⟨_,F,hb⟩,λfd oc' od' osl' lk'=>?_⟩;have e:=lk.symm.trans lk'
   injection e with e
   injection e with e1 e2 e3 e4
   injection e3 with e3
   subst e3;exact F
  .simp only[c6,hd]at h;exact h.1
  .simp only[c6,hd]at h;refine⟨λD U H=>wB d.body ⟨T,R,c6 T R k,true⟩ D (λ_=>E) U H,?_,h.2⟩;have hx:=wt (P:=P) (w:=w) (K:=K) (mg:=mg) (base:=base) (N:=d.N) (qual:=qual) (scope:=scope) (f:=R.fad f) (cd:=cdv) (A:=A) (outer:=outer) (E:=E) (s:=s) (H:=H);refine sB (k:=2*k) d.body (G:=⟨T,R,c6 T R k,true⟩) (S:=⟨T,scope,d.N⟩) { hK:=hK,hT:=rfl,sc:=rfl,N:=rfl,nd:=S.nd,pass:=mP hx,cm:=λ_=>rfl,room:=λ_=>hr,un:= ?_,tab:=tab,fns:=λf' d' hd'=>yX tab hK fs k f' d' hd',xok:=λ_=>hx,own:=PassesOwn.leaving,stk:=rfl,fr:=rfl,fn:=λ_=>rfl } hm;have:=hr.un;show(A.deeper _).units+200<cLine
   omega
abbrev jg (K:W.Frag)(n:Nat):Sp:=λvs H Q _=>∃ (a:Addr) (ns:List Int),vs=[.ref a]/\aU K H a (ns.map V.int)/\ns.length<=n/\∀ H',Q (.bl true) H'
variable {P:Program}
def xO {w:World}{H:Hp}{s:Shared}{e:Value}{s':Shared}(h:xE P w [] H s (λ_ _=>False) e s'):False:=by
 obtain⟨e,H',C,dx,fs,T,_,_,_,_,_,_,_,_,_,q⟩:=h;exact q
variable {fd:FuncData}{ps:List Str}
def ED {K:W.Frag}(h:Binds K fd ps []):∀ j:Nat,∃ ds,Binds K fd ps ds/\Vals (([]:List V).drop j) ds:=λj=>⟨[],h,by simp;exact .nil⟩
def Be {K:W.Frag}{ds:List Value}{T:Addr}{o:Obj}{items:Array Value}{c n:Nat}(hd:fd.defaults=.ref T)(ho:K.lookup T=some o)(hs:o.data=.seq items c)(hn:n+ds.length=ps.length)
  (h:∀ us:List Value,us.length=n->∃ k:Option (Array Value)->Sem (List (Str×Value)),bindArgs fd ⟨us,[]⟩=seqItems? fd.defaults >>= k/\k (some items)=pure (ps.zip (us++ds))):Binds K fd ps ds:=λs us X hl=>by
 obtain⟨k,h1,h2⟩:=h us (by rw[ci]at hl;omega);exact W.binds_K X hd ho hs h1 h2
def m8:∀ {vs:List V}{us:List Value}(j:Nat),Vals vs us->Vals (vs.drop j) (us.drop j)
 |_,_,0,h=>h
 |_,_,j+1,.nil=>by simp;exact .nil
 |_::_,_::_,j+1,.cons _ h=>by simpa using m8 j h
def sY {α β:Type} [BEq α] [LawfulBEq α] {x:α}{y:β}:∀ {l:List (α×β)},l.lookup x=some y->(x,y) ∈ l
 | [],h=>by simp at h
 |(a,b)::l,h=>by
  rw[lookup_cons]at h;cases e:x ==a with
  |true=>
   rw[e]at h;have:=beq_iff_eq.mp e;subst this
   injection h with h
   subst h;exact mo
  |false=>
   rw[e]at h;exact dL _ (sY h)
def lJ {β:Type} [BEq α] [LawfulBEq α] {P:α->β->Prop}{l:List (α×β)}(h:∀ p ∈ l,P p.1 p.2):∀ x y,l.lookup x=some y->P x y:=λx y e=>h (x,y) (sY e)
def gP {β γ:Type} [BEq α] [LawfulBEq α] [BEq β] [LawfulBEq β] {P:α->β->γ->Prop}{l:List ((α×β)×γ)}(h:∀ p ∈ l,P p.1.1 p.1.2 p.2):∀ x y z,l.lookup (x,y)=some z->P x y z:=λx y z e=>h ((x,y),z) (sY e)
def iJ  [BEq α] [LawfulBEq α] {P:α->Prop}{l:List α}(h:∀ p ∈ l,P p):∀ x,l.contains x=true->P x:=λx e=>h x (by simpa using e)
def Co {β:Type} [BEq α] [LawfulBEq α] [BEq β] [LawfulBEq β] {P:α->β->Prop}{l:List (α×β)}(h:∀ p ∈ l,P p.1 p.2):∀ x y,l.contains (x,y)=true->P x y:=λx y e=>h (x,y) (by simpa using e)
abbrev uG (P:Nat->aq->Prop):Nat->List aq->Prop
 |_,[]=>True
 |n,d::r=>P n d/\uG P (n+1) r
def DZ {P:Nat->aq->Prop}:∀ {l:List aq}{n:Nat},uG P n l->∀ f d,l[f]? =some d->P (n+f) d
 | [],_,_,f,d,e=>by simp at e
 |a::l,n,h,0,d,e=>by
  have:a=d:=by simpa using e
  subst this;exact h.1
 |a::l,n,h,f+1,d,e=>by
  have:=DZ h.2 f d (by simpa using e)
  rwa [Nat.add_assoc,Nat.add_comm 1 f]at this
def tS {P:Nat->aq->Prop}{l:List aq}(h:uG P 0 l):∀ f d,l[f]? =some d->P f d:=λf d e=>by
 have:=DZ h f d e
 rwa [Nat.zero_add]at this
def F6 {w:World}{K:W.Frag}{mg:ME}{base:Heap}{T:Tab}{R:Rt}(tab:BW K mg T R)(hK:R.K=K)(fs:∀ f d,T.fns[f]? =some d->vQ K T (R.fad f) d) (k fl:Nat) (d:aq) (hd:T.fns[fl]? =some d)
  {oc:Value}{od:Option Addr}{osl:Array (Option Value)}(lk:K.lookup (R.fad fl)=some ⟨oc,od,.func fd,osl⟩) (h:∀ vs H Q E,jg K 63 vs H Q E->c6 T R k fl vs H Q E):dy P w K mg base (xE P w) (2*k) (R.fad fl) fd d.ps (jg K 63):=
 ((yX tab hK fs k fl d hd).own _ _ _ _ lk).imp h
end L3
namespace L3
open PySem L2
abbrev mq:HO->HO
 | .lst _=>.lst []
 | .dK _=>.dK []
 | .dT _=>.dT []
 | .ins C dx _=>.ins C dx []
 | .exc C _ _ _=>.exc C none [] false
 |o=>o
abbrev kd:HO->Option String
 | .lst _=>some "list"
 | .tup _=>some "tuple"
 | .dK _=>some "dict"
 |_=>none
def tZ (o:HO):kd (mq o)=kd o:=by cases o<;>rfl
abbrev jS (H H':Hp):Prop:=∀ a o,H a=some o->∃ o',H' a=some o'/\mq o'=mq o
def jS.tup {H H':Hp}(g:jS H H'){t:Addr}{xs:List V}(h:H t=some (.tup xs)):H' t=some (.tup xs):=by
 obtain⟨o',h1,h2⟩:=g t _ h;have key:∀ u:HO,mq u=.tup xs->u=.tup xs:=λu=>by cases u<;>intro e<;>first|exact e|cases e
 rw[key o' h2]at h1;exact h1
variable {H:Hp}{t:String}
def jS.ty {H':Hp}(g:jS H H'){v:V}(h:tyName v H=some t):tyName v H'=some t:=by
 cases v<;>try exact h
 rename_i a;have h':(match H a with|some (.lst _)=>some "list"|some (.tup _)=>some "tuple"|some (.dK _)=>some "dict"|_=>none)=some t:=h;show(match H' a with|some (.lst _)=>some "list"|some (.tup _)=>some "tuple"|some (.dK _)=>some "dict"|_=>none)=some t;cases e:H a with
 |none=>rw[e]at h';cases h'
 |some o=>
  rw[e]at h';obtain⟨o',h1,h2⟩:=g a _ e;rw[h1];have key:kd o'=kd o:=by rw[<-tZ o',<-tZ o,h2]
  have k1:∀ u:HO,(match some u with|some (HO.lst _)=>some "list"|some (.tup _)=>some "tuple"|some (.dK _)=>some "dict"|_=>none)=kd u:=λu=>by cases u<;>rfl
  rw[k1]at h'⊢;rw[key];exact h'
variable {a:Addr}{xs:List V}
def Ck (e:H a=some (.lst xs)):tyName (.ref a) H=some "list":=by
 show(match H a with|some (.lst _)=>some "list"|some (.tup _)=>some "tuple"|some (.dK _)=>some "dict"|_=>none)=_;rw[e]
def G7 (e:H a=some (.tup xs)):tyName (.ref a) H=some "tuple":=by
 show(match H a with|some (.lst _)=>some "list"|some (.tup _)=>some "tuple"|some (.dK _)=>some "dict"|_=>none)=_;rw[e]
variable {kvs:List (Key×V)}
def KD (e:H a=some (.dK kvs)):tyName (.ref a) H=some "dict":=by
 show(match H a with|some (.lst _)=>some "list"|some (.tup _)=>some "tuple"|some (.dK _)=>some "dict"|_=>none)=_;rw[e]
def jS.upd {o o':HO}(h:H a=some o)(e:mq o'=mq o):jS H (L2.upd H a o'):=λb u hb=>by
 by_cases z:b=a
 .subst z;rw[h]at hb;cases hb;exact⟨o',az,e⟩
 .exact⟨u,(ai z).trans hb,rfl⟩
def jS.new {o':HO}(h:H a=none):jS H (L2.upd H a o'):=λb u hb=>⟨u,(ai λz=>by rw[z,h]at hb;cases hb).trans hb,rfl⟩
structure av where
 p:Hp->(Addr->Prop)->Prop
 st:∀ H H' D,p H D->(∀ a,D a->H' a=H a)->jS H H'->p H' D
 up:∀ H D D',p H D->(∀ a,D a->D' a)->p H D'
abbrev pt (a:Addr)(o:HO):av:=⟨λH D=>D a/\H a=some o,λH H' D h k _=>⟨h.1,(k a h.1).trans h.2⟩,λH D D' h k=>⟨k a h.1,h.2⟩⟩
abbrev tu (t:Addr)(xs:List V):av:=⟨λH _=>H t=some (.tup xs),λH H' D h _ k=>k.tup h,λH D D' h _=>h⟩
abbrev tys (xs:List V):av:=⟨λH _=>∀ x ∈ xs,∃ t,tyName x H=some t,λH H' D h _ k x hx=>let⟨t,e⟩:=h x hx;⟨t,k.ty e⟩,λH D D' h _=>h⟩
abbrev pu (φ:Prop):av:=⟨λ_ _=>φ,λ_ _ _ h _ _=>h,λ_ _ _ h _=>h⟩
abbrev ex {α:Type}(f:α->av):av:=⟨λH D=>∃ x,(f x).p H D,λH H' D ⟨x,h⟩ k t=>⟨x,(f x).st H H' D h k t⟩,λH D D' ⟨x,h⟩ k=>⟨x,(f x).up H D D' h k⟩⟩
abbrev pK (A B:av):av:=⟨λH D=>∃ D1 D2:Addr->Prop,(∀ a,D1 a->D a)/\(∀ a,D2 a->D a)/\(∀ a,D1 a->D2 a->False)/\A.p H D1/\B.p H D2,
 λH H' D ⟨D1,D2,s1,s2,dj,h1,h2⟩ k t=>⟨D1,D2,s1,s2,dj,A.st H H' D1 h1 (λa z=>k a (s1 a z)) t,B.st H H' D2 h2 (λa z=>k a (s2 a z)) t⟩,
 λH D D' ⟨D1,D2,s1,s2,dj,h1,h2⟩ k=>⟨D1,D2,λa z=>k a (s1 a z),λa z=>k a (s2 a z),dj,h1,h2⟩⟩
abbrev bA:List av->Hp->(Addr->Prop)->Prop
 | [],_,_=>True
 |A::O,H,D=>∃ D1 D2:Addr->Prop,(∀ a,D1 a->D a)/\(∀ a,D2 a->D a)/\(∀ a,D1 a->D2 a->False)/\A.p H D1/\bA O H D2
abbrev Sep (O:List av)(H:Hp):Prop:=∃ D:Addr->Prop,(∀ a,D a->H a≠none)/\bA O H D
inductive ag (A:av):List av->List av->Prop where
 |e {O:List av}:ag A (A::O) O
 |t {B:av}{O Γ':List av}(h:ag A O Γ'):ag A (B::O) (B::Γ')
variable {g:List av}
section
variable {A B:av}{O Γ':List av}{H H':Hp}{a b p t:Addr}{o o':HO}{xs:List V}{φ:Prop}
def bA.st:∀ {O:List av}{H H':Hp}{D:Addr->Prop},bA O H D->(∀ a,D a->H' a=H a)->jS H H'->bA O H' D
 | [],_,_,_,_,_,_=>True.intro
 |A::O,H,H',D,⟨D1,D2,s1,s2,dj,h1,h2⟩,k,t=>⟨D1,D2,s1,s2,dj,A.st H H' D1 h1 (λa z=>k a (s1 a z)) t,bA.st h2 (λa z=>k a (s2 a z)) t⟩
def bA.up:∀ {O:List av}{H:Hp}{D D':Addr->Prop},bA O H D->(∀ a,D a->D' a)->bA O H D'
 | [],_,_,_,_,_=>True.intro
 |A::O,H,D,D',⟨D1,D2,s1,s2,dj,h1,h2⟩,k=>⟨D1,D2,λa z=>k a (s1 a z),λa z=>k a (s2 a z),dj,h1,h2⟩
def Sep.nil:Sep [] H:=⟨λ_=>False,λ_ z=>z.elim,True.intro⟩
def bA.pull:∀ {O Γ':List av}{D:Addr->Prop},ag A O Γ'->bA O H D->bA (A::Γ') H D:=by
 intro O Γ' D h
 induction h generalizing D with
 |e=>exact λz=>z
 |t h ih=>
  rintro⟨D1,D2,s1,s2,dj,h1,h2⟩;obtain⟨E1,E2,t1,t2,ej,k1,k2⟩:=ih h2;refine⟨E1,λa=>D1 a\/E2 a,λa z=>s2 a (t1 a z),λa z=>z.elim (s1 a) λz=>s2 a (t2 a z),λa z1 z2=>?_,k1,D1,E2,λa z=>.inl z,λa z=>.inr z,λa z1 z2=>dj a z1 (t2 a z2),h1,k2⟩;rcases z2 with z2|z2
  .exact dj a z2 (t1 a z1)
  .exact ej a z1 z2
def Sep.pull (h:ag A O Γ')(s:Sep O H):Sep (A::Γ') H:=let⟨D,k,z⟩:=s;⟨D,k,bA.pull h z⟩
def bA.push:∀ {O Γ':List av}{D:Addr->Prop},ag A O Γ'->bA (A::Γ') H D->bA O H D:=by
 intro O Γ' D h
 induction h generalizing D with
 |e=>exact λz=>z
 |t h ih=>
  rintro⟨D1,D2,s1,s2,dj,h1,E1,E2,t1,t2,ej,k1,k2⟩;refine⟨E1,λa=>D1 a\/E2 a,λa z=>s2 a (t1 a z),λa z=>z.elim (s1 a) λz=>s2 a (t2 a z),λa z1 z2=>?_,k1,ih ⟨D1,E2,λa z=>.inl z,λa z=>.inr z,λa z1 z2=>dj a z1 (t2 a z2),h1,k2⟩⟩;rcases z2 with z2|z2
  .exact dj a z2 (t1 a z1)
  .exact ej a z1 z2
def Sep.push (h:ag A O Γ')(s:Sep (A::Γ') H):Sep O H:=let⟨D,k,z⟩:=s;⟨D,k,bA.push h z⟩
def Sep.drop (s:Sep (A::O) H):Sep O H:=let⟨D,k,D1,D2,s1,s2,dj,h1,h2⟩:=s;⟨D2,λa z=>k a (s2 a z),h2⟩
def Sep.at (s:Sep (pt a o::O) H):H a=some o:=let⟨D,k,D1,D2,s1,s2,dj,h1,h2⟩:=s;h1.2
def Sep.atT (s:Sep (tu t xs::O) H):H t=some (.tup xs):=let⟨D,k,D1,D2,s1,s2,dj,h1,h2⟩:=s;h1
def Sep.pure (s:Sep (pu φ::O) H):φ:=let⟨D,k,D1,D2,s1,s2,dj,h1,h2⟩:=s;h1
def Sep.tR (h:φ)(s:Sep O H):Sep (pu φ::O) H:=let⟨D,k,h2⟩:=s;⟨D,k,λ_=>False,D,λ_ z=>z.elim,λ_ z=>z,λ_ z _=>z,h,h2⟩
def Sep.D0 (h:H t=some (.tup xs))(s:Sep O H):Sep (tu t xs::O) H:=let⟨D,k,h2⟩:=s;⟨D,k,λ_=>False,D,λ_ z=>z.elim,λ_ z=>z,λ_ z _=>z,h,h2⟩
def Sep.ne (s:Sep (pt a o::pt b o'::O) H):a≠b:=by
 obtain⟨D,k,D1,D2,s1,s2,dj,h1,E1,E2,t1,t2,ej,k1,k2⟩:=s;rintro rfl;exact dj a h1.1 (t1 a k1.1)
def Sep.set (s:Sep (pt a o::O) H)(n:mq o'=mq o):Sep (pt a o'::O) (upd H a o'):=by
 obtain⟨D,k,D1,D2,s1,s2,dj,h1,h2⟩:=s;refine⟨D,λb z=>?_,D1,D2,s1,s2,dj,⟨h1.1,az⟩,bA.st h2 (λb z=>ai λe=>dj a h1.1 (e▸z)) (jS.upd h1.2 n)⟩
 by_cases e:b=a
 .rw[e,az];exact λz=>by cases z
 .rw[ai e];exact k b z
def Sep.new (s:Sep O H)(h:H p=none):Sep (pt p o::O) (upd H p o):=by
 obtain⟨D,k,z⟩:=s;have ne:∀ b,D b->b≠p:=λb hb e=>k b hb (e▸h)
 refine⟨λb=>b=p\/D b,λb hb=>?_,λb=>b=p,D,λb e=>.inl e,λb e=>.inr e,λb e z=>ne b z e,⟨rfl,az⟩,bA.st z (λb hb=>ai (ne b hb)) (jS.new h)⟩;rcases hb with rfl|hb
 .rw[az];exact λz=>by cases z
 .rw[ai (ne b hb)];exact k b hb
def Sep.iG (s:Sep O H)(h:H p=none):Sep (tu p xs::O) (upd H p (.tup xs)):=Sep.D0 az (Sep.drop (s.new (o:=.tup xs) h))
def Sep.toT (s:Sep (pt t (.tup xs)::O) H):Sep (tu t xs::O) H:=Sep.D0 s.at s.drop
def Sep.star:Sep (pK A B::O) H ↔ Sep (A::B::O) H:=by
 constructor
 .rintro⟨D,k,D1,D2,s1,s2,dj,⟨E1,E2,t1,t2,ej,k1,k2⟩,h2⟩;refine⟨D,k,E1,λa=>E2 a\/D2 a,λa z=>s1 a (t1 a z),λa z=>z.elim (λz=>s1 a (t2 a z)) (s2 a),λa z1 z2=>?_,k1,E2,D2,λa z=>.inl z,λa z=>.inr z,λa z1 z2=>dj a (t2 a z1) z2,k2,h2⟩;rcases z2 with z2|z2
  .exact ej a z1 z2
  .exact dj a (t1 a z1) z2
 .rintro⟨D,k,D1,D2,s1,s2,dj,h1,E1,E2,t1,t2,ej,k1,k2⟩;refine⟨D,k,λa=>D1 a\/E1 a,E2,λa z=>z.elim (s1 a) λz=>s2 a (t1 a z),λa z=>s2 a (t2 a z),λa z1 z2=>?_,⟨D1,E1,λa z=>.inl z,λa z=>.inr z,λa z1 z2=>dj a z1 (t1 a z2),h1,k1⟩,k2⟩;rcases z1 with z1|z1
  .exact dj a z1 (t2 a z2)
  .exact ej a z1 z2
def Sep.G3 {α:Type}{f:α->av}:Sep (ex f::O) H ↔ ∃ x,Sep (f x::O) H:=by
 constructor
 .rintro⟨D,k,D1,D2,s1,s2,dj,⟨x,h1⟩,h2⟩;exact⟨x,D,k,D1,D2,s1,s2,dj,h1,h2⟩
 .rintro⟨x,D,k,D1,D2,s1,s2,dj,h1,h2⟩;exact⟨D,k,D1,D2,s1,s2,dj,⟨x,h1⟩,h2⟩
def Sep.imp (h:∀ H D,A.p H D->B.p H D) (s:Sep (A::O) H):Sep (B::O) H:=let⟨D,k,D1,D2,s1,s2,dj,h1,h2⟩:=s;⟨D,k,D1,D2,s1,s2,dj,h _ _ h1,h2⟩
def Sep.Jr (s:Sep (tys xs::O) H):∀ x ∈ xs,∃ t,tyName x H=some t:=let⟨D,k,D1,D2,s1,s2,dj,h1,h2⟩:=s;h1
def Sep.free (h:∀ D,A.p H D) (s:Sep O H):Sep (A::O) H:=let⟨D,k,h2⟩:=s;⟨D,k,λ_=>False,D,λ_ z=>z.elim,λ_ z=>z,λ_ z _=>z,h _,h2⟩
def Sep.IK (h:∀ x ∈ xs,∃ t,tyName x H=some t) (s:Sep O H):Sep (tys xs::O) H:=s.free λ_=>h
def Sep.get (s:Sep O H)(h:ag (pt a o) O Γ'):H a=some o:=(s.pull h).at
def Sep.eX (s:Sep O H)(h:ag (tu t xs) O Γ'):H t=some (.tup xs):=(s.pull h).atT
inductive aO (A B:av):List av->List av->Prop where
 |e {O:List av}:aO A B (A::O) (B::O)
 |t {C:av}{O Γ':List av}(h:aO A B O Γ'):aO A B (C::O) (C::Γ')
def ag.k1 {b:av}:ag A (b::A::g) (b::g):=.t .e
def ag.k2 {b c:av}:ag A (b::c::A::g) (b::c::g):=.t .k1
def ag.k3 {b c d:av}:ag A (b::c::d::A::g) (b::c::d::g):=.t .k2
def ag.j2 {b c:av}{f:List av}(h:ag A g f):ag A (b::c::g) (b::c::f):=.t (.t h)
def aO.k1 {b:av}:aO A B (b::A::g) (b::B::g):=.t .e
def aO.k2 {b c:av}:aO A B (b::c::A::g) (b::c::B::g):=.t .k1
def aO.k3 {b c d:av}:aO A B (b::c::d::A::g) (b::c::d::B::g):=.t .k2
def aO.bG (h:aO A B O Γ'):∃ Δ,ag A O Δ/\ag B Γ' Δ:=by
 induction h with
 |e=>exact⟨_,.e,.e⟩
 |t h ih=>
  obtain⟨Δ,h1,h2⟩:=ih;exact⟨_,.t h1,.t h2⟩
def Sep.put (s:Sep O H)(h:aO (pt a o) (pt a o') O Γ')(n:mq o'=mq o):Sep Γ' (upd H a o'):=by
 obtain⟨Δ,h1,h2⟩:=h.bG;exact((s.pull h1).set n).push h2
inductive Sub:List av->List av->Prop where
 |refl {O:List av}:Sub O O
 |nil {O:List av}:Sub [] O
 |cons {A:av}{O Γ' Δ:List av}(h:ag A O Δ) (r:Sub Γ' Δ):Sub (A::Γ') O
 |drop {A:av}{O Γ':List av}(r:Sub Γ' O):Sub Γ' (A::O)
def bA.sub:∀ {O Γ':List av}{D:Addr->Prop},Sub Γ' O->bA O H D->bA Γ' H D:=by
 intro O Γ' D h
 induction h generalizing D with
 |refl=>exact λz=>z
 |nil=>exact λ_=>True.intro
 |cons h r ih=>
  intro z;obtain⟨D1,D2,s1,s2,dj,h1,h2⟩:=bA.pull h z;exact⟨D1,D2,s1,s2,dj,h1,ih h2⟩
 |drop r ih=>
  rintro⟨D1,D2,s1,s2,dj,h1,h2⟩;exact(ih h2).up s2
def Sep.sub (h:Sub Γ' O)(s:Sep O H):Sep Γ' H:=let⟨D,k,z⟩:=s;⟨D,k,bA.sub h z⟩
end
@[irreducible] noncomputable def ae (T:Tab) (R:Rt) (k f:Nat):Sp:=c6 T R k f
def pS:ae=c6:=by
 funext T R k f
 unfold ae
 rfl
variable {Q:VK}
def wc {T:Tab}{R:Rt}{k f:Nat}{d:aq}{vs:List V}{E:XK}(hk:0<k)(hd:T.fns[f]? =some d)(hl:vs.length=d.ps.length)
  (h:wB d.body ⟨T,R,ae T R (k-1),true⟩ { nx:=λ_ H'=>Q .non H',rt:=Q } (λ_=>E) (start d.N vs) H):ae T R k f vs H Q E:=by
 rw[pS]at h⊢;cases k with
 |zero=>exact absurd hk (by decide)
 |succ k=>
  show(match T.fns[f]? with|some d=>_|none=>False);rw[hd];exact⟨hl,h⟩
variable {c:Bool}
def bT {A B:Prop}(h1:c=true->A)(h2:c=false->B):i7 c A B:=by
 unfold i7;cases c
 .exact h2 rfl
 .exact h1 rfl
def aM {A B:Prop}(h:c=true)(h1:A):i7 c A B:=by subst h;unfold i7;exact h1
def au {A B:Prop}(h:c=false)(h1:B):i7 c A B:=by subst h;unfold i7;exact h1
def Gw {A B:Prop}(h:i7 c B A):i7 (!c) A B:=by
 unfold i7 at h⊢;cases c
 .exact h
 .exact h
def aD {p:Prop} [Decidable p] {A B:Prop}(h1:p->A)(h2:¬ p->B):i7 (decide p) A B:=bT (λh=>h1 (of_decide_eq_true h)) λh=>h2 (of_decide_eq_false h)
def aG {i j:Int}{A B:Prop}(h1:i=j->A)(h2:i≠j->B):i7 (ef (.int i) (.int j)) A B:=by
 show i7 (i ==j) A B;exact bT (λh=>h1 (by simpa using h)) λh=>h2 (by simpa using h)
variable {dx:Addr}{n:Nat}{fs:List (Str×V)}{es:List V}{R:Hp->Prop}{fr:Bool}
section
variable {K:W.Frag}{G:Gx}{O Γ':List av}{H:Hp}{Q:VK}{a p:Addr}{o:HO}{xs ys:List V}{v w:V}{i:Int}{f:Str}
def al (s:Sep O H)(h:∀ p H',Sep (pt p o::O) H'->Q (.ref p) H'):∀ p,H p=none->Q (.ref p) (upd H p o):=λp hp=>h p _ (s.new hp)
def gJ {C x:Addr}(s:Sep O H)(h1:H x=none)(h2:H dx=none)(h3:dx≠x):Sep (pt x (.ins C dx [])::pt dx (.own x)::O) (upd (upd H dx (.own x)) x (.ins C dx [])):=(s.new h2).new (by rw[ai h3.symm];exact h1)
def eD {dx:Option Addr}{E:XK}(s:Sep O H)(r:aO (pt a (.exc (G.R.cad n) dx fs true)) (pt a (.exc (G.R.cad n) dx fs false)) O Γ')(ho:G.T.xc.contains n=true)(h:∀ H',Sep Γ' H'->E a H'):
  ∃ b i dx fs,V.ref a=.ref b/\H b=some (.exc (G.R.cad i) dx fs true)/\G.T.xc.contains i=true/\E b (upd H b (.exc (G.R.cad i) dx fs false)):=by
 obtain⟨Δ,h1,h2⟩:=r.bG;exact⟨a,n,dx,fs,rfl,s.get h1,ho,h _ (s.put r rfl)⟩
def Mp (s:Sep O H)(h:∀ p H',Sep (tu p xs::O) H'->Q (.ref p) H'):∀ p,H p=none->Q (.ref p) (upd H p (.tup xs)):=λp hp=>h p _ (s.iG hp)
def Ej (s:Sep O H)(hl:es.length<=10000)(h:∀ p H',Sep (pt p (.lst es)::O) H'->Q (.ref p) H'):Cr es H Q:=by unfold Cr;exact⟨hl,al s h⟩
def Fu (s:Sep O H)(hl:es.length<=10000)(h:∀ p H',Sep (pt p (.tup es)::O) H'->Q (.ref p) H'):iG es H Q:=by unfold iG;exact⟨hl,al s h⟩
def EJ (s:Sep O H)(h:∀ p H',Sep (pt p (.dK [])::O) H'->Q (.ref p) H'):newD H Q:=by unfold newD;exact al s h
def aJ (e:H a=some (.lst xs))(hv:nZ xs i=some v)(q:Q v H):qF K (.ref a) (.int i) H Q:=by unfold qF;exact .inl ⟨xs,i,v,rfl,.inl (aU.of e),hv,q⟩
def bP (e:H a=some (.tup xs))(hv:nZ xs i=some v)(q:Q v H):qF K (.ref a) (.int i) H Q:=by unfold qF;exact .inl ⟨xs,i,v,rfl,.inr (bc.of e),hv,q⟩
def dA {j:Nat}(s:Sep O H)(r:aO (pt a (.lst xs)) (pt a (.lst ys)) O Γ')(hj:Ad xs.length i=some j)(hx:xs.set j v=ys)(h:∀ H',Sep Γ' H'->R H'):gF (.ref a) (.int i) v H R:=by
 obtain⟨Δ,h1,h2⟩:=r.bG;subst hx;unfold gF;exact .inl ⟨xs,i,j,rfl,s.get h1,hj,h _ (s.put r rfl)⟩
def HB (e:H a=some (.lst xs))(h0:0<=i)(hv:xs[i.toNat]? =some v)(q:Q v H):zV K (.ref a) (.int i) H Q:=by unfold zV;exact⟨xs,v,aU.of e,h0,hv,q⟩
def cF (e:H a=some (.ins (G.R.cad n) dx fs))(ho:G.T.oc.contains n=true)(hn:G.T.na.contains (n,f)=true)(hl:fs.lookup f=some v)(q:Q v H):sx G f (.ref a) H Q:=by unfold sx;exact⟨a,n,fs,v,rfl,.inl ⟨ho,dx,e⟩,hn,hl,q⟩
def IL (e:H a=some (.exc (G.R.cad n) (some dx) fs fr))(ho:G.T.xc.contains n=true)(hn:G.T.na.contains (n,f)=true)(hl:fs.lookup f=some v)(q:Q v H):sx G f (.ref a) H Q:=by unfold sx;exact⟨a,n,fs,v,rfl,.inr ⟨ho,dx,fr,e⟩,hn,hl,q⟩
def Kq {fs':List (Str×V)}(s:Sep O H)(r:aO (pt a (.ins (G.R.cad n) dx fs)) (pt a (.ins (G.R.cad n) dx fs')) O Γ')(ho:G.T.oc.contains n=true)(hn:G.T.na.contains (n,f)=true)(hl:fs.length<1000)(hf:cS f v fs=fs')(h:∀ H',Sep Γ' H'->R H'):Bt G f (.ref a) v H R:=by
 obtain⟨Δ,h1,h2⟩:=r.bG;subst hf;unfold Bt;exact⟨a,n,rfl,hn,.inl ⟨dx,fs,ho,s.get h1,hl,h _ (s.put r rfl)⟩⟩
def CZ {d:Addr}{fs':List (Str×V)}(s:Sep O H)(r:aO (pt a (.exc (G.R.cad n) (some d) fs fr)) (pt a (.exc (G.R.cad n) (some d) fs' fr)) O Γ')(ho:G.T.xc.contains n=true)(hn:G.T.na.contains (n,f)=true)(hl:fs.length<1000)(hf:cS f v fs=fs')(h:∀ H',Sep Γ' H'->R H'):Bt G f (.ref a) v H R:=by
 obtain⟨Δ,h1,h2⟩:=r.bG;subst hf;unfold Bt;exact⟨a,n,rfl,hn,.inr (.inl ⟨d,fs,fr,ho,s.get h1,hl,h _ (s.put r rfl)⟩)⟩
def uk (s:Sep (pt a (.exc (G.R.cad n) none [] fr)::O) H)(ho:G.T.xc.contains n=true)(hn:G.T.na.contains (n,f)=true)(h:∀ d H',Sep (pt a (.exc (G.R.cad n) (some d) [(f,v)] fr)::pt d (.own a)::O) H'->R H'):Bt G f (.ref a) v H R:=by
 unfold Bt;refine⟨a,n,rfl,hn,.inr (.inr ⟨fr,ho,s.at,λd hd=>h d _ ?_⟩)⟩;exact((s.new (o:=.own a) hd).pull (.t .e)).set rfl
def cX {n:String}{b:Bool}(ht:tyName v H=some t)(hb:G.T.subB.lookup (t,n)=some b)(q:Q (.bl b) H):mf G (.ty n) v H Q:=by unfold mf;exact .inl ⟨t,b,ht,hb,q⟩
def Hs {j:Nat}{b:Bool}(e:H a=some (.ins (G.R.cad j) dx fs))(ho:G.T.oc.contains j=true)(hb:G.T.sub.lookup (j,n)=some b)(q:Q (.bl b) H):mf G (.own n) (.ref a) H Q:=by unfold mf;exact .inr ⟨a,j,b,rfl,.inl ⟨ho,dx,fs,e⟩,hb,q⟩
def ip (e:H a=some (.lst xs))(q:Q (.int xs.length) H):lS G .len [.ref a] H Q:=by unfold lS;exact⟨_,xs.length,rfl,.inl ⟨xs,aU.of e,rfl⟩,q⟩
def uH (e:H a=some (.tup xs))(q:Q (.int xs.length) H):lS G .len [.ref a] H Q:=by unfold lS;exact⟨_,xs.length,rfl,.inr ⟨xs,bc.of e,rfl⟩,q⟩
def E3 {j:Int}(hc:G.cm=true)(q:Q (.int (min i j)) H):lS G .min [.int i,.int j] H Q:=by
 unfold lS;refine⟨hc,.inl ⟨i,j,rfl,?_⟩⟩;have e:(if j<i then j else i)=min i j:=by split<;>omega
 rw[e];exact q
def Gr {j:Int}(hc:G.cm=true)(q:Q (.int (max i j)) H):lS G .max [.int i,.int j] H Q:=by
 unfold lS;refine⟨hc,.inl ⟨i,j,rfl,?_⟩⟩;have e:(if j>i then j else i)=max i j:=by split<;>omega
 rw[e];exact q
def cp (h0:0<=i)(h1:i<n):Ad n i=some i.toNat:=by
 unfold Ad;rw[if_pos h0,if_pos h1]
def uR (s:Sep O H)(e:H a=some (.lst xs))(h:∀ p H',Sep (pt p (.lst xs)::O) H'->Q (.ref p) H'):lS G .list [.ref a] H Q:=by unfold lS;exact⟨_,xs,rfl,.inl (aU.of e),al s h⟩
def Fb (s:Sep O H)(e:H a=some (.lst xs))(h:∀ p H',Sep (tu p xs::O) H'->Q (.ref p) H'):lS G .tuple [.ref a] H Q:=by unfold lS;exact⟨_,xs,rfl,.inl ⟨aU.of e,Mp s h⟩⟩
def ub (s:Sep O H){b:Addr}(e1:H a=some (.lst xs))(e2:H b=some (.lst ys))(hl:xs.length+ys.length<=100000)(h:∀ p H',Sep (pt p (.lst (xs++ys))::O) H'->Q (.ref p) H'):CM K a b H Q:=by unfold CM;exact .inl ⟨xs,ys,e1,e2,hl,al s h⟩
def HK (s:Sep O H)(e:H a=some (.lst xs))(h1: -1000<=i)(h2:i<=1000)(h3:xs.length<=1000)(h:∀ p H',Sep (pt p (.lst (sK i.toNat xs).flatten)::O) H'->Q (.ref p) H'):CN K a i H Q:=by unfold CN;exact .inl ⟨xs,e,h1,h2,h3,al s h⟩
def lj {y:V}(s:Sep O H)(r:aO (pt a (.lst xs)) (pt a (.lst (xs++[y]))) O Γ')(hl:xs.length<=10000)(h:∀ H',Sep Γ' H'->Q .non H'):EF .append a xs [y] H Q:=by unfold EF;exact⟨_,rfl,hl,h _ (s.put r rfl)⟩
def KH {lo hi:Option Int}(s:Sep O H)(e:aU K H a xs)(h:∀ p H',Sep (pt p (.lst (gk xs lo hi))::O) H'->Q (.ref p) H'):DR K (.ref a) lo hi H Q:=by unfold DR;exact .inl ⟨xs,e,al s h⟩
def Io {R:It->Hp->Prop}(e:H a=some (.lst xs))(h:R (GU K a) H):rX K a H R:=by unfold rX;exact .inl ⟨⟨xs,aU.of e⟩,h⟩
def C8 {R:It->Hp->Prop}(e:H a=some (.lst xs))(h:R (Ho a) H):C5 a H R:=by unfold C5;exact⟨⟨xs,e⟩,h⟩
def GG {lo hi:Option Int}(s:Sep O H)(e:H a=some (.lst xs))(h:∀ p H',Sep (pt p (.lst (gk xs lo hi))::O) H'->Q (.ref p) H'):DR K (.ref a) lo hi H Q:=by unfold DR;exact .inl ⟨xs,aU.of e,al s h⟩
end
variable {x:V}
section
variable {K:W.Frag}{H:Hp}{Q:VK}
def cN (f:aE x=true):ef x x=true:=by
 cases x<;>simp[aE]at f<;>simp[ef]
def kg {y:V}(fx:aE x=true)(fy:aE y=true)(q:Q (.bl (ef x y)) H):d9 K false x y H Q:=by unfold d9;exact⟨0,_,.flat fx fy,by decide,.inl fx,q⟩
def ke {y:V}(fx:aE x=true)(fy:aE y=true)(q:Q (.bl (!ef x y)) H):d9 K true x y H Q:=by unfold d9;exact⟨0,_,.flat fx fy,by decide,.inl fx,q⟩
def ET {b:Addr}(h:l9 K H n (.ref a) (.ref b) c)(hn:n<=100)(ne:a≠b)(q:Q (.bl c) H):d9 K false (.ref a) (.ref b) H Q:=by unfold d9;exact⟨n,c,h,hn,.inr (.inl λz=>ne (V.ref.inj z)),q⟩
def FZ {b:Addr}(h:l9 K H n (.ref a) (.ref b) c)(hn:n<=100)(ne:a≠b)(q:Q (.bl (!c)) H):d9 K true (.ref a) (.ref b) H Q:=by unfold d9;exact⟨n,c,h,hn,.inr (.inl λz=>ne (V.ref.inj z)),q⟩
def eq_self (h:sU K H a)(q:Q (.bl true) H):d9 K false (.ref a) (.ref a) H Q:=by unfold d9;exact⟨1,true,.same a,by decide,.inr (.inr (.inl ⟨rfl,a,rfl,h⟩)),q⟩
def xT (h:tyName x H=some t):l9 K H (n+1) x x true:=by
 have key:aE x=true->l9 K H (n+1) x x true:=λf=>by
  have:=l9.flat (K:=K) (H:=H) (n:=n+1) f f
  rwa [cN f]at this
 cases x<;>first|exact key rfl|exact .same _|(cases h)
def all_true (n:Nat):(List.range n).all (λ_=>true)=true:=by simp
def xG {b:Addr}(h1:H a=some (.lst xs))(h2:H b=some (.lst xs))(h:∀ x ∈ xs,∃ t,tyName x H=some t):l9 K H (n+2) (.ref a) (.ref b) true:=by
 have:=l9.ll (K:=K) (n:=n) (e:=λ_=>true) (aU.of h1) (aU.of h2) rfl λj x y e1 e2=>by
  rw[e1]at e2;cases e2;obtain⟨t,ht⟩:=h x (cr e1);exact xT ht
 rwa [all_true]at this
end
variable {rest:St}{te:TE}
section
variable {D:Ends}{F:(St->Hp->Prop)->V->St->Hp->Prop}{U:St}{H:Hp}
def cY {lo:Int}(I:Nat->St->Hp->Prop)(h0:I 0 U H)(hs:∀ j U H,j<n->I j U H->F (I (j+1)) (.int (lo+j)) U H) (hd:∀ U H,I n U H->D.nx U H):lW (DW lo n) D F U H:=by
 unfold lW;refine⟨λi m U H=>m=n-i/\i<=n/\I i U H,⟨n,by simp,Nat.zero_le _,h0⟩,λi m U H ⟨e,hi,h⟩=>?_⟩
 by_cases hlt:i<n
 .refine .inr ⟨hlt,I (i+1),λσ' H' h'=>⟨n-(i+1),by omega,rfl,hlt,h'⟩,λx H' y=>?_⟩;obtain⟨rfl,rfl⟩:=y;exact hs i U H' hlt h
 .have:i=n:=by omega
  subst this;exact .inl ⟨re _,hd U H h⟩
def dH {K:W.Frag}(I:Nat->St->Hp->Prop)(h0:I 0 U H)(hl:∀ j U H,I j U H->aU K H a xs)
  (hs:∀ j x U H,xs[j]? =some x->I j U H->F (I (j+1)) x U H) (hd:∀ U H,I xs.length U H->D.nx U H):lW (GU K a) D F U H:=by
 unfold lW;refine⟨λi m U H=>m=xs.length-i/\i<=xs.length/\I i U H,⟨xs.length,by simp,Nat.zero_le _,h0⟩,λi m U H ⟨e,hi',h⟩=>?_⟩
 by_cases hlt:i<xs.length
 .refine .inr ⟨⟨xs,xs[i],hl i U H h,li hlt⟩,I (i+1),λσ' H' h'=>⟨xs.length-(i+1),by omega,rfl,hlt,h'⟩,λx H' y=>?_⟩;obtain⟨rfl,hy⟩:=y;exact hs i x U H' (hy xs (hl i U H' h)) h
 .have:i=xs.length:=by omega
  subst this;exact .inl ⟨⟨xs,hl _ U H h,re _⟩,hd U H h⟩
def kb (I:Nat->St->Hp->Prop)(h0:I 0 U H)(hl:∀ j U H,I j U H->H a=some (.lst xs)) (hs:∀ j x T U H,xs[j]? =some x->I j U H->H T=none->F (I (j+1)) (.ref T) U (upd H T (.tup [.int j,x])))
  (hd:∀ U H,I xs.length U H->D.nx U H):lW (Ho a) D F U H:=by
 unfold lW;refine⟨λi m U H=>m=xs.length-i/\i<=xs.length/\I i U H,⟨xs.length,by simp,Nat.zero_le _,h0⟩,λi m U H ⟨e,hi',h⟩=>?_⟩
 by_cases hlt:i<xs.length
 .refine .inr ⟨⟨xs,xs[i],hl i U H h,li hlt⟩,I (i+1),λσ' H' h'=>⟨xs.length-(i+1),by omega,rfl,hlt,h'⟩,λx H' y=>?_⟩;obtain⟨T,z,hT,rfl,rfl,hy⟩:=y;exact hs i z T U H (hy xs (hl i U H h)) h hT
 .have:i=xs.length:=by omega
  subst this;exact .inl ⟨⟨xs,hl _ U H h,re _⟩,hd U H h⟩
@[irreducible] noncomputable def vb (I:Addr->List V->Hp->Prop) (D:Addr) (ys:List V) (rest:St) (x:Option V):VK:=λv H3=>∃ zs,H3 D=some (.lst zs)/\zs.length<bn/\∃ ys2 x2,x::rest=x2::rest/\ys2.length=ys.length+1/\I D ys2 (upd H3 D (.lst (zs++[v])))
def vb.mk {I:Addr->List V->Hp->Prop}{D:Addr}{ys:List V}{x:Option V}{v:V}{H3:Hp}(h1:H3 D=some (.lst ys))(hl:ys.length<=999)(h2:I D (ys++[v]) (upd H3 D (.lst (ys++[v])))):vb I D ys rest x v H3:=
 by unfold vb;exact⟨ys,h1,dc nofun,ys++[v],x,rfl,by simp,h2⟩
def xo (hn:n<=1000)(I:Addr->List V->Hp->Prop)(h0:∀ D,H D=none->I D [] (upd H D (.lst [])))
  (hs:∀ D ys H',ys.length<n->I D ys H'->te (some (.int (0+(ys.length:Nat)))::rest) H' (vb I D ys rest (some (.int (0+(ys.length:Nat))))))
  (hd:∀ D ys H',ys.length=n->I D ys H'->Q (.ref D) H'):zS te (DW 0 n) (none::rest) H Q:=by
 unfold zS;intro D hD;refine⟨λi m σ' H'=>m=n-i/\i<=n/\∃ ys x0,σ'=x0::rest/\ys.length=i/\I D ys H',⟨n,by simp,Nat.zero_le _,[],none,rfl,rfl,h0 D hD⟩,λi m σ' H' ⟨e,hi,ys,x0,e1,e2,h⟩=>?_⟩;subst e1 e2
 by_cases hlt:ys.length<n
 .refine .inr ⟨hlt,λσ2 H2=>∃ ys2 x2,σ2=x2::rest/\ys2.length=ys.length+1/\I D ys2 H2,λσ2 H2 ⟨ys2,x2,f1,f2,f3⟩=>⟨n-(ys.length+1),by omega,rfl,hlt,ys2,x2,f1,f2,f3⟩,λx H'' y=>?_⟩;obtain⟨e1,e2⟩:=y;subst e1 e2;have z:=hs D ys H'' hlt h;unfold vb at z;exact z
 .have:ys.length=n:=by omega
  exact .inl ⟨Nat.le_of_eq this.symm,hd D ys H' this h⟩
def xN {K:W.Frag}(hn:xs.length<=1000)(I:Addr->List V->Hp->Prop)(hl:∀ D ys H,I D ys H->aU K H a xs) (h0:∀ D,H D=none->I D [] (upd H D (.lst [])))
  (hs:∀ D ys x H',xs[ys.length]? =some x->I D ys H'->te (some x::rest) H' (vb I D ys rest (some x)))
  (hd:∀ D ys H',ys.length=xs.length->I D ys H'->Q (.ref D) H'):zS te (GU K a) (none::rest) H Q:=by
 unfold zS;intro D hD;refine⟨λi m σ' H'=>m=xs.length-i/\i<=xs.length/\∃ ys x0,σ'=x0::rest/\ys.length=i/\I D ys H',⟨xs.length,by simp,Nat.zero_le _,[],none,rfl,rfl,h0 D hD⟩,λi m σ' H' ⟨e,hi,ys,x0,e1,e2,h⟩=>?_⟩;subst e1 e2
 by_cases hlt:ys.length<xs.length
 .refine .inr ⟨⟨xs,xs[ys.length],hl D ys H' h,li hlt⟩,λσ2 H2=>∃ ys2 x2,σ2=x2::rest/\ys2.length=ys.length+1/\I D ys2 H2,λσ2 H2 ⟨ys2,x2,f1,f2,f3⟩=>⟨xs.length-(ys.length+1),by omega,rfl,hlt,ys2,x2,f1,f2,f3⟩,λx H'' y=>?_⟩;obtain⟨e1,hy⟩:=y;subst e1;have z:=hs D ys x H'' (hy xs (hl D ys H'' h)) h;unfold vb at z;exact z
 .have:ys.length=xs.length:=by omega
  exact .inl ⟨⟨xs,hl D ys H' h,Nat.le_of_eq this.symm⟩,hd D ys H' this h⟩
def GC {K:W.Frag}{G:Gx}{bs:List Bool}(hc:G.cm=true)(e:H a=some (.lst (bs.map V.bl)))(q:Q (.bl (bs.all id)) H):lS G .all [.ref a] H Q:=by unfold lS;exact⟨hc,_,bs,rfl,aU.of e,q⟩
def iZ (q:Q (.bl (decide (x=.non))) H):Aq false x .non H Q:=by unfold Aq;exact q
def bb (q:Q (.bl (!decide (x=.non))) H):Aq true x .non H Q:=by unfold Aq;exact q
def fL {K:W.Frag}(e:bc K H a xs)(fx:aE x=true)(fs:xs.all aE=true)(q:Q (.bl (GX x xs)) H):Jn K false x (.ref a) H Q:=by unfold Jn;exact .inl ⟨xs,.inr e,fx,fs,q⟩
end
section
variable {K:W.Frag}{G:Gx}{O Γ':List av}{H:Hp}{Q:VK}{a b:Addr}{xs ys:List V}{v:V}
def Ce {tp1 tp2:Bool}{R:It->Hp->Prop}(h1:Sq K tp1 H a xs)(h2:Sq K tp2 H b ys)(h:R (GZ K tp1 a tp2 b) H):BU K (.ref a) (.ref b) H R:=by unfold BU;exact⟨tp1,a,tp2,b,rfl,rfl,⟨xs,h1⟩,⟨ys,h2⟩,h⟩
def pF {D:Ends}{F:(St->Hp->Prop)->V->St->Hp->Prop}{U:St}{tp1 tp2:Bool}(I:Nat->St->Hp->Prop)(hn:xs.length=ys.length)(h0:I 0 U H)(hl:∀ j U H,I j U H->Sq K tp1 H a xs/\Sq K tp2 H b ys)
  (hs:∀ j x y T U H,xs[j]? =some x->ys[j]? =some y->I j U H->H T=none->F (I (j+1)) (.ref T) U (upd H T (.tup [x,y]))) (hd:∀ U H,I xs.length U H->D.nx U H):lW (GZ K tp1 a tp2 b) D F U H:=by
 unfold lW;refine⟨λi m U H=>m=xs.length-i/\i<=xs.length/\I i U H,⟨xs.length,by simp,Nat.zero_le _,h0⟩,λi m U H ⟨e,hi',h⟩=>?_⟩
 by_cases hlt:i<xs.length
 .obtain⟨g1,g2⟩:=hl i U H h;refine .inr ⟨⟨xs,ys,xs[i],ys[i]'(hn▸hlt),g1,g2,li hlt,li (hn▸hlt)⟩,I (i+1),λσ' H' h'=>⟨xs.length-(i+1),by omega,rfl,hlt,h'⟩,λx H' y=>?_⟩;obtain⟨T,z,z',hT,rfl,rfl,hy,hy'⟩:=y;exact hs i z z' T U H (hy xs g1) (hy' ys g2) h hT
 .have:i=xs.length:=by omega
  subst this;obtain⟨g1,g2⟩:=hl _ U H h;exact .inl ⟨⟨xs,ys,g1,g2,.inl (re _)⟩,hd U H h⟩
def HE {tp1 tp2:Bool}{ks:List Key}(s:Sep O H)(h1:Sq K tp1 H a (ks.map kV))(h2:Sq K tp2 H b ys)(hn:ks.Nodup)(hl:ks.length=ys.length)(hz:ks.length<=1000)(h:∀ p H',Sep (pt p (.dK (ks.zip ys))::O) H'->Q (.ref p) H'):Ic K (.ref a) (.ref b) H Q:=by unfold Ic;exact⟨tp1,a,tp2,b,ks,ys,rfl,rfl,h1,h2,hn,hl,hz,al s h⟩
def nR {k:Key}(e:H a=some (.dK kvs))(hv:jU kvs k=some v)(q:Q v H):qF K (.ref a) (kV k) H Q:=by unfold qF;exact .inr ⟨v,.inl ⟨kvs,k,.inl e,rfl,hv.symm⟩,q⟩
def ve {kvs':List (Key×V)}{k:Key}(s:Sep O H)(r:aO (pt a (.dK kvs)) (pt a (.dK kvs')) O Γ')(hl:kvs.length<=10000)(hx:putK kvs k v=kvs')(h:∀ H',Sep Γ' H'->R H'):gF (.ref a) (kV k) v H R:=by
 obtain⟨Δ,h1,h2⟩:=r.bG;subst hx;unfold gF;exact .inr ⟨_,.inl ⟨kvs,k,s.get h1,rfl,Nat.lt_of_le_of_lt hl (by decide),rfl⟩,h _ (s.put r rfl)⟩
def tV (s:Sep O H)(e:H a=some (.dK kvs))(h:∀ p H',Sep (pt p (.dK kvs)::O) H'->Q (.ref p) H'):lS G .dict [.ref a] H Q:=by unfold lS;exact⟨_,kvs,rfl,e,al s h⟩
def Fm (hn:xs.length<=1000)(I:Addr->List V->Hp->Prop)(hl:∀ D ys H,I D ys H->bc K H a xs) (h0:∀ D,H D=none->I D [] (upd H D (.lst [])))
  (hs:∀ D ys x H',xs[ys.length]? =some x->I D ys H'->te (some x::rest) H' (vb I D ys rest (some x)))
  (hd:∀ D ys H',ys.length=xs.length->I D ys H'->Q (.ref D) H'):zS te (Hr K a) (none::rest) H Q:=by
 unfold zS;intro D hD;refine⟨λi m σ' H'=>m=xs.length-i/\i<=xs.length/\∃ ys x0,σ'=x0::rest/\ys.length=i/\I D ys H',⟨xs.length,by simp,Nat.zero_le _,[],none,rfl,rfl,h0 D hD⟩,λi m σ' H' ⟨e,hi,ys,x0,e1,e2,h⟩=>?_⟩;subst e1 e2
 by_cases hlt:ys.length<xs.length
 .refine .inr ⟨⟨xs,xs[ys.length],hl D ys H' h,li hlt⟩,λσ2 H2=>∃ ys2 x2,σ2=x2::rest/\ys2.length=ys.length+1/\I D ys2 H2,λσ2 H2 ⟨ys2,x2,f1,f2,f3⟩=>⟨xs.length-(ys.length+1),by omega,rfl,hlt,ys2,x2,f1,f2,f3⟩,λx H'' y=>?_⟩;obtain⟨e1,hy⟩:=y;subst e1;have z:=hs D ys x H'' (hy xs (hl D ys H'' h)) h;unfold vb at z;exact z
 .have:ys.length=xs.length:=by omega
  exact .inl ⟨⟨xs,hl D ys H' h,Nat.le_of_eq this.symm⟩,hd D ys H' this h⟩
def HC {R:It->Hp->Prop}(e:bc K H a xs)(h:R (Hr K a) H):rX K a H R:=by unfold rX;exact .inr ⟨⟨xs,e⟩,h⟩
def Kf {C:Addr}(s:Sep O H)(h:∀ x dx H',Sep (pt x (.ins C dx [])::pt dx (.own x)::O) H'->Q (.ref x) H'):yO C H Q:=by unfold yO;exact λx dx h1 h2 h3=>h x dx _ (gJ s h1 h2 h3)
end
end L3
namespace L3
open PySem PySem.Spec PySem.W L2
variable {ps:List Str}
def zY:∀ {us:List Value}{n:Str},us.length=ps.length->n ∈ ps->((ps.zip us).lookup n).isNone=false:=by
 induction ps with
 |nil=>intro us n _ h;cases h
 |cons p ps ih=>
  intro us n hl h;cases us with
  |nil=>cases hl
  |cons u us=>
   rw[zip_cons_cons,lookup_cons];cases e:n ==p with
   |true=>rfl
   |false=>
    rcases nb.mp h with rfl|h
    .rw[beq_self_eq_true]at e;cases e
    .exact ih (Nat.succ.inj hl) h
def tT:∀ {ps:List Str}{us:List Value},ps.Nodup->us.length=ps.length->∀ {L:List (Str×Value)},(∀ n ∈ ps,L.lookup n=(ps.zip us).lookup n)->ps.filterMap (λn=>(L.lookup n).map (n,·))=ps.zip us
 | [],us,_,_,L,_=>rfl
 |p::ps,[],_,hl,L,_=>by cases hl
 |p::ps,u::us,nd,hl,L,hL=>by
  have h0:L.lookup p=some u:=by rw[hL p mo,zip_cons_cons,lookup_cons,beq_self_eq_true]
  rw[filterMap_cons,h0,zip_cons_cons];show(p,u)::_=_;rw[tT (nodup_cons.mp nd).2 (Nat.succ.inj hl) (L:=L)];intro n hn;rw[hL n (dL _ hn),zip_cons_cons,lookup_cons];have:(n ==p)=false:=by
   cases e:n ==p with
   |false=>rfl
   |true=>
    have:=beq_iff_eq.mp e;subst this;exact absurd hn (nodup_cons.mp nd).1
  rw[this]
variable {fd:FuncData}
def qe (nd:ps.Nodup)(h1:fd.params.posonlyargs=[])(h2:fd.params.args.map (·.arg)=ps)(h3:fd.params.kwonlyargs=[])(h4:fd.params.vararg=none)(h5:fd.params.kwarg=none)(h6:fd.defaults=.none)(us:List Value)(hl:us.length=ps.length):
  bindArgs fd ⟨us,[]⟩=pure (ps.zip us):=by
 obtain⟨name,qual,⟨po,as,va,ko,kd,ka,df⟩,body,scope,glo,cw,dV,kV,doc,pm,an,cdv,ct,bu⟩:=fd;dsimp only at h1 h2 h3 h4 h5 h6;subst h1 h2 h3 h4 h5 h6;generalize hps:as.map (·.arg)=ps at nd hl⊢;have e1:seqItems? (Value.none)=(pure none:Sem (Option (Array Value))):=rfl;have e2:∀ f:Str->Bool,(∀ n ∈ ps,f n=false)->ps.filter f=[]:=λf h=>List.filter_eq_nil_iff.mpr λa ha=>by rw[h a ha];decide
 have e3:¬ (us.length>ps.length):=by omega
 have e4:=e2 (λn=>((ps.zip us).lookup n).isNone) λn hn=>zY hl hn
 have e5:=tT nd hl (L:=ps.zip us) λ_ _=>rfl
 unfold bindArgs;dsimp only[List.map_nil,nil_append,append_nil];rw[hps];simp[e1,e3,e4,e5]
abbrev gD (S:List (Str×Value))(x:Str×Value):List (Str×Value):=if(S.lookup x.1).isNone=true then S++[x] else S
def Dq:∀ {L:List (Str×Value)}{S:List (Str×Value)},(∀ x ∈ L,(S.lookup x.1).isNone=false)->L.foldl gD S=S
 | [],_,_=>rfl
 |x::L,S,h=>by
  have h0:gD S x=S:=by
   unfold gD;rw[if_neg (by rw[h x mo];decide)]
  rw[foldl_cons,h0];exact Dq λy hy=>h y (dL _ hy)
def DT:∀ {L:List (Str×Value)}{S:List (Str×Value)},(L.map (·.1)).Nodup->(∀ x ∈ L,S.lookup x.1=none)->L.foldl gD S=S++L
 | [],S,_,_=>by rw[append_nil];rfl
 |x::L,S,nd,h=>by
  have h0:gD S x=S++[x]:=by
   unfold gD;rw[if_pos (by rw[h x mo];rfl)]
  rw[map_cons]at nd;rw[foldl_cons,h0,DT (nodup_cons.mp nd).2]
  .rw[le];rfl
  .intro y hy;have hne:(y.1 ==x.1)=false:=by
    cases e:y.1 ==x.1 with
    |false=>rfl
    |true=>
     have e:=beq_iff_eq.mp e;exact absurd (List.mem_map_of_mem (f:=(·.1)) hy) (e▸(nodup_cons.mp nd).1)
   obtain⟨a,b⟩:=x;rw[List.lookup_append,h y (dL _ hy),lookup_cons,hne]
   rfl
def Dt {n:Str}:∀ {L:List (Str×Value)},(∀ x ∈ L,x.1≠n)->L.lookup n=none
 | [],_=>rfl
 |(a,b)::L,h=>by
  have:(n ==a)=false:=by
   cases e:n ==a with
   |false=>rfl
   |true=>exact absurd (beq_iff_eq.mp e).symm (h (a,b) mo)
  rw[lookup_cons,this];exact Dt λx hx=>h x (dL _ hx)
variable {A:List Str}{B:List Value}
def nS {x:Str×Value}(h:x ∈ A.zip B):x.1 ∈ A:=by
 obtain⟨a,b⟩:=x;exact(of_mem_zip h).1
def zip_map (h:A.length<=B.length):(A.zip B).map (·.1)=A:=List.map_fst_zip h
def nO {B:List Str}{us:List Value}(h:A.length=us.length):(A++B).zip us=A.zip us:=by
 have:=zip_append (l₁:=A) (l₂:=us) (r₁:=B) (r₂:=[]) h;rw[append_nil,List.zip_nil_right,append_nil]at this;exact this
def Dd {B:List Str}{us D1 D2:List Value}(nd:(A++B).Nodup)(h1:A.length=us.length)(h2:B.length=D2.length)(h3:D1.length<=A.length):
  (((A++B).drop (A.length-D1.length)).zip (D1++D2)).foldl gD ((A++B).zip us)=(A++B).zip (us++D2):=by
 have a:=Dq (L:=(A.drop (A.length-D1.length)).zip D1) (S:=(A++B).zip us) λx hx=>by
  rw[nO h1];exact zY h1.symm (List.mem_of_mem_drop (nS hx))
 have b:=DT (L:=B.zip D2) (S:=(A++B).zip us) (by rw[zip_map nofun];exact(List.nodup_append.mp nd).2.1) λx hx=>by
  refine Dt λy hy e=>?_
  rw[nO h1]at hy;exact(List.nodup_append.mp nd).2.2 y.1 (nS hy) x.1 (nS hx) e
 rw[List.drop_append_of_le_length nofun,zip_append (by rw[jp];omega),List.foldl_append,a,b,nO h1,zip_append h1]
def Ao {us ds:List Value}(nd:ps.Nodup)(h1:us.length<=ps.length)(h2:ds.length<=ps.length)(h3:ps.length<=us.length+ds.length):
  ((ps.drop (ps.length-ds.length)).zip ds).foldl gD (ps.zip us)=ps.zip (us++ds.drop (us.length+ds.length-ps.length)):=by
 have nd2:(ps.take us.length++ps.drop us.length).Nodup:=by rw[take_append_drop];exact nd
 have:=Dd (A:=ps.take us.length) (B:=ps.drop us.length) (us:=us) (D1:=ds.take (us.length+ds.length-ps.length)) (D2:=ds.drop (us.length+ds.length-ps.length)) nd2 (by rw[db];omega) (by rw[jp,jp];omega) (by rw[db,db];omega);rw[take_append_drop,take_append_drop,db,db]at this;rw[show min us.length ps.length-min (us.length+ds.length-ps.length) ds.length=ps.length-ds.length by omega]at this;exact this
def qK:∀ {L:List (Str×Value)}{S:List (Str×Value)},(forIn L S λx r=>(match x with|(name,d)=>if(r.lookup name).isNone=true then pure (ForInStep.yield (r++[(name,d)])) else pure (ForInStep.yield r):Sem (ForInStep (List (Str×Value)))))=pure (L.foldl gD S)
 | [],S=>by simp
 |(a,b)::L,S=>by
  rw[forIn_cons,foldl_cons,<-qK];unfold gD
  by_cases e:(S.lookup a).isNone=true
  .simp only[e,if_true,pure_bind]
  .simp only[e,if_false,pure_bind,Bool.false_eq_true]
def xp {T:Addr}{items:Array Value}(nd:ps.Nodup)(h1:fd.params.posonlyargs=[])(h2:fd.params.args.map (·.arg)=ps)(h3:fd.params.kwonlyargs=[])(h4:fd.params.vararg=none)(h5:fd.params.kwarg=none)(h6:fd.defaults=.ref T)(us:List Value)(l1:us.length<=ps.length)(l2:items.toList.length<=ps.length)(l3:ps.length<=us.length+items.toList.length):
  ∃ k:Option (Array Value)->Sem (List (Str×Value)),bindArgs fd ⟨us,[]⟩=seqItems? fd.defaults >>= k/\k (some items)=pure (ps.zip (us++items.toList.drop (us.length+items.toList.length-ps.length))):=by
 obtain⟨name,qual,⟨po,as,va,ko,kd,ka,df⟩,body,scope,glo,cw,dV,kV,doc,pm,an,cdv,ct,bu⟩:=fd;dsimp only at h1 h2 h3 h4 h5 h6;subst h1 h2 h3 h4 h5 h6;generalize hps:as.map (·.arg)=ps at nd l1 l2 l3⊢;have e2:∀ f:Str->Bool,(∀ n ∈ ps.take (ps.length-items.toList.length),f n=false)->(ps.take (ps.length-items.toList.length)).filter f=[]:=λf h=>List.filter_eq_nil_iff.mpr λa ha=>by rw[h a ha];decide
 have e3:¬ (us.length>ps.length):=by omega
 have ez:ps.zip us=(ps.take us.length).zip us:=by
  have:=nO (A:=ps.take us.length) (B:=ps.drop us.length) (us:=us) (by rw[db];omega);rw[take_append_drop]at this;exact this
 have e4:=e2 (λn=>((ps.zip us).lookup n).isNone) λn hn=>by
  rw[ez];refine zY (by rw[db];omega) ?_;have:ps.take (ps.length-items.toList.length)=(ps.take us.length).take (ps.length-items.toList.length):=by rw[List.take_take,Nat.min_eq_left nofun]
  rw[this]at hn;exact List.mem_of_mem_take hn
 have e6:=Ao (us:=us) (ds:=items.toList) nd l1 l2 l3;have e5:=tT (us:=us++items.toList.drop (us.length+items.toList.length-ps.length)) nd (by rw[ci,jp];omega) λ_ _=>rfl
 have e7:items.toList.length-ps.length=0:=by omega
 unfold bindArgs;dsimp only[List.map_nil,nil_append,append_nil];rw[hps];refine⟨_,rfl,?_⟩;simp only[Option.getD_some,List.map_nil,nil_append,e7,drop_zero,e4,e3,List.isEmpty_nil,Bool.not_true,decide_false,Bool.false_and,Bool.false_eq_true,if_false,forIn_nil,append_nil];rw[qK,e6,pure_bind,pure_bind];simp only[e5,List.isEmpty_nil,Bool.not_true,Bool.false_eq_true,if_false]
abbrev DG (x:Option (Option Value))(a:Addr):Bool:=match x with
 |some (some (.ref b))=>b ==a
 |_=>false
variable {x:Option (Option Value)}
def gh {a:Addr}(h:DG x a=true):x=some (some (.ref a)):=by
 unfold DG at h
 split at h
 .rw[beq_iff_eq.mp h]
 .cases h
abbrev rG (x:Option (Option Value))(a:String):Bool:=match x with
 |some (some (.builtin b))=>b ==a
 |_=>false
variable {a:String}
def cG (h:rG x a=true):x=some (some (.builtin a)):=by
 unfold rG at h
 split at h
 .rw[beq_iff_eq.mp h]
 .cases h
abbrev Kb (x:Option Value)(a:String):Bool:=match x with
 |some (.type b)=>b ==a
 |_=>false
def GH {x:Option Value}(h:Kb x a=true):x=some (.type a):=by
 unfold Kb at h
 split at h
 .rw[beq_iff_eq.mp h]
 .cases h
abbrev xY (x:Option (Option Value)):Bool:=match x with
 |some none=>true
 |_=>false
def nI (h:xY x=true):x=some none:=by
 unfold xY at h
 split at h
 .rfl
 .cases h
abbrev Cn (x:Option Bool)(b:Bool):Bool:=match x with
 |some c=>c ==b
 |none=>false
def eE {x:Option Bool}{b:Bool}(h:Cn x b=true):x=some b:=by
 unfold Cn at h
 split at h
 .rw[beq_iff_eq.mp h]
 .cases h
abbrev KQ (v:V)(x:Option (Option Value)):Bool:=match v,x with
 | .int i,some (some (.int j _))=>i ==j
 | .str s,some (some (.str s' _))=>s ==s'
 | .ref a,y=>DG y a
 |_,_=>false
def GK {v:V}(h:KQ v x=true):∃ u,x=some (some u)/\RelV v u:=by
 unfold KQ at h
 split at h
 .rw[<-beq_iff_eq.mp h];exact⟨_,rfl,_,rfl⟩
 .rw[<-beq_iff_eq.mp h];exact⟨_,rfl,_,rfl⟩
 .rw[gh h];exact⟨_,rfl,rfl⟩
 .cases h
section
variable (K:Frag) (C:Addr)
abbrev CT:Bool:=plainGet K C Str.empty&&(hasDictIn K C&&(plainOver K C&&rG (findIn K (.ref C) "__setattr__") "object.__setattr__"))
def ui {K:Frag}{C:Addr}(h:CT K C=true):B5 K C:=by
 unfold CT at h;simp only[nl]at h;exact⟨h.1,h.2.1,h.2.2.1,cG h.2.2.2⟩
abbrev CW:Bool:=rG (findIn K (.ref C) "__class__") "object.__class__"&&(rG (specialIn K (.builtin "object.__class__") "__get__") "getset_descriptor.__get__"&&Cn (takesIn K (.builtin "object.__class__")) true)
abbrev qR:Bool:=Kb (typeIn K (.ref C)) "type"&&((clsIn K C).any (λcd=>dE cd.mro)&&(hasDictIn K C&&(rG (findIn K (.ref C) "__getattribute__") "BaseException.__getattribute__"&&(xY (findIn K (.ref C) "__getattr__")&&rG (findIn K (.ref C) "__setattr__") "object.__setattr__"))))
def kE {K:Frag}{C:Addr}(h:qR K C=true):cU K C:=by
 unfold qR at h;simp only[nl]at h;exact⟨GH h.1,h.2.1,h.2.2.1,cG h.2.2.2.1,nI h.2.2.2.2.1,cG h.2.2.2.2.2⟩
end
abbrev all2 {α:Type}(l:List α)(p:α->Bool):Bool:=match l with
 | []=>true
 |a::r=>p a&&all2 r p
def aC {α:Type}{p:α->Bool}:∀ {l:List α},all2 l p=true->∀ a ∈ l,p a=true
 | [],_,_,h=>by cases h
 |a::r,h,b,hb=>by
  unfold all2 at h;rw[nl]at h;rcases nb.mp hb with rfl|hb
  .exact h.1
  .exact aC h.2 b hb
abbrev Et (K:Frag)(fs cs:List Addr)(gs:List (Str×V)):Rt:=⟨K,λi=>fs.getD i 0,λi=>cs.getD i 0,λx=>gs.lookup x⟩
section
variable (K:Frag) (T:Tab) (fs cs:List Addr) (gs:List (Str×V))
abbrev CL:Bool:=
 (all2 T.gfn (λp=>DG (nsIn K mainGlobals p.1) (fs.getD p.2 0)&&(keepIn K (.ref (fs.getD p.2 0))&&(T.fns[p.2]?).isSome))&&
 (all2 T.gcl (λp=>DG (nsIn K mainGlobals p.1) (cs.getD p.2 0))&&
 (all2 T.gbl (λx=>xY (nsIn K mainGlobals x)&& !(x ==("__name__":Str)))&&
 (all2 T.gbi (λx=>match nsIn K mainGlobals x with
  |some (some (.ref B))=>rG (specialIn K (.ref B) "__getattribute__") "type.__getattribute__"&&(readsIn K B (.type "type")&&(match findCls K (.ref B) (.type "type") "__init__" with|some (.val (.builtin n))=>n =="ValueError.__init__"|_=>false))
  |_=>false)&&
 (all2 gs (λp=>KQ p.2 (nsIn K mainGlobals p.1))&&
 (all2 T.na (λp=>xY (findIn K (.ref (cs.getD p.1 0)) p.2))&&
 (all2 T.me (λp=>CT K (cs.getD p.1.1 0)&&(DG (findIn K (.ref (cs.getD p.1.1 0)) p.1.2) (fs.getD p.2 0)&&(isFn K (.ref (fs.getD p.2 0))&&(keepIn K (.ref (fs.getD p.2 0))&&(T.fns[p.2]?).isSome)))))))))))&&
 (all2 T.ini0 (λc=>cj K (cs.getD c 0)&&(rG (findIn K (.ref (cs.getD c 0)) "__init__") "ValueError.__init__"&&(keepIn K (.ref (cs.getD c 0))&&qR K (cs.getD c 0))))&&
 (all2 T.inip (λc=>makesIn K (cs.getD c 0)&&(rG (findIn K (.ref (cs.getD c 0)) "__init__") "object.__init__"&&keepIn K (.ref (cs.getD c 0))))&&
 (all2 T.ini (λp=>(T.fns[p.2]?).isSome&&((if T.xc.contains p.1=true then cj K (cs.getD p.1 0) else makesIn K (cs.getD p.1 0))&&(DG (findIn K (.ref (cs.getD p.1 0)) "__init__") (fs.getD p.2 0)&&(isFn K (.ref (fs.getD p.2 0))&&keepIn K (.ref (cs.getD p.1 0))))))&&
 (all2 T.oc (λc=>CT K (cs.getD c 0)&&(CW K (cs.getD c 0)&&Cn (mroIn K (cs.getD c 0) (.type "object")) true))&&
 (all2 T.xc (λc=>qR K (cs.getD c 0)&&CW K (cs.getD c 0))&&
 (all2 T.sub (λp=>Cn (kitOne K (.ref (cs.getD p.1.1 0)) (.ref (cs.getD p.1.2 0))) p.2&&(!T.xc.contains p.1.1||(Cn (mroIn K (cs.getD p.1.1 0) (.ref (cs.getD p.1.2 0))) p.2&&qR K (cs.getD p.1.2 0))))&&
 (all2 T.subT (λp=>Cn (kitOne K (.ref (cs.getD p.1.1 0)) (.type p.1.2)) p.2)&&
 (all2 T.subB (λp=>Cn (kitOne K (.type p.1.1) (.type p.1.2)) p.2)&&
 (all2 T.subO (λp=>Cn (kitOne K (.type p.1.1) (.ref (cs.getD p.1.2 0))) p.2)&&
  all2 T.cin (λp=>rG (specialIn K (.ref (cs.getD p.1 0)) "__getattribute__") "type.__getattribute__"&&(readsIn K (cs.getD p.1 0) (.type "type")&&((match findCls K (.ref (cs.getD p.1 0)) (.type "type") "__init__" with|some (.val (.ref f))=>f ==fs.getD p.2 0|_=>false)&&(keepIn K (.ref (fs.getD p.2 0))&&(T.fns[p.2]?).isSome)))))))))))))
end
def kc {α:Type}{x:Option α}(h:x.isSome=true):∃ d,x=some d:=Option.isSome_iff_exists.mp h
variable {K:Frag}{T:Tab}{fs:List Addr}{gs:List (Str×V)}{mg:ME}
def CB {cs:List Addr}{h:Heap}(X:K.In h)(G:h.Ns mainGlobals mg)(z:CL K T fs cs gs=true):BW K mg T (Et K fs cs gs):=by
 unfold CL at z;simp only[nl]at z;obtain⟨⟨z1,z2,z3,z4,z5,z6,z7⟩,z8,z9,z10,z11,z12,z13,z14,z15,z16,z17⟩:=z;exact {
  gfn:=lJ λp hp=>by
   have:=aC z1 p hp;simp only[nl]at this;exact⟨mg_of X G (gh this.1),this.2.1,kc this.2.2⟩
  gcl:=lJ λp hp=>mg_of X G (gh (aC z2 p hp))
  gbl:=iJ λx hx=>by
   have:=aC z3 x hx;simp only[nl]at this;exact⟨mg_none_of X G (nI this.1),by simpa using this.2⟩
  gbi:=iJ λx hx=>by
   have:=aC z4 x hx
   split at this
   .rename_i B e;simp only[nl]at this;refine⟨B,mg_of X G e,cG this.1,this.2.1,?_⟩;have t:=this.2.2
    split at t
    .rename_i n e2;rw[e2,beq_iff_eq.mp t]
    .cases t
   .cases this
  gl:=lJ λp hp=>by
   obtain⟨u,e,r⟩:=GK (aC z5 p hp);exact⟨u,mg_of X G e,r⟩
  na:=Co λp hp=>nI (aC z6 p hp)
  me:=gP λp hp=>by
   have:=aC z7 p hp;simp only[nl]at this;exact⟨ui this.1,⟨gh this.2.1,this.2.2.1,this.2.2.2.1⟩,kc this.2.2.2.2⟩
  ini0:=iJ λc hc=>by
   have:=aC z8 c hc;simp only[nl]at this;exact⟨this.1,cG this.2.1,this.2.2.1,kE this.2.2.2⟩
  inip:=iJ λc hc=>by
   have:=aC z9 c hc;simp only[nl]at this;exact⟨this.1,cG this.2.1,this.2.2⟩
  ini:=lJ λp hp=>by
   have:=aC z10 p hp;simp only[nl]at this;refine⟨kc this.1,?_⟩;have t:=this.2
   by_cases e:T.xc.contains p.1=true
   .rw[if_pos e]at t⊢;exact⟨t.1,gh t.2.1,t.2.2.1,t.2.2.2⟩
   .rw[if_neg e]at t⊢;exact⟨t.1,gh t.2.1,t.2.2.1,t.2.2.2⟩
  oc:=iJ λc hc=>by
   have:=aC z11 c hc;simp only[CW,nl]at this;exact⟨ui this.1,cG this.2.1.1,cG this.2.1.2.1,eE this.2.1.2.2,eE this.2.2⟩
  xc:=iJ λc hc=>by
   have:=aC z12 c hc;simp only[CW,nl]at this;exact⟨kE this.1,cG this.2.1,cG this.2.2.1,eE this.2.2.2⟩
  sub:=gP λp hp=>by
   have:=aC z13 p hp;simp only[nl]at this;refine⟨eE this.1,λe=>?_⟩;have t:=this.2;rw[e,Bool.not_true,Bool.false_or,nl]at t;exact⟨eE t.1,kE t.2⟩
  subT:=gP λp hp=>eE (aC z14 p hp)
  subB:=gP λp hp=>eE (aC z15 p hp)
  subO:=gP λp hp=>eE (aC z16 p hp)
  cin:=lJ λp hp=>by
   have:=aC z17 p hp;simp only[nl]at this;refine⟨⟨cG this.1,this.2.1,?_,this.2.2.2.1⟩,kc this.2.2.2.2⟩;have t:=this.2.2.1
   split at t
   .rename_i f e2;rw[beq_iff_eq.mp t]at e2;exact e2
   .cases t }
abbrev JB:List Str->Bool
 | []=>true
 |a::r=>!r.contains a&&JB r
def w4:∀ {l:List Str},JB l=true->l.Nodup
 | [],_=>List.nodup_nil
 |a::r,h=>by
  unfold JB at h;rw[nl]at h;exact nodup_cons.mpr ⟨by simpa using h.1,w4 h.2⟩
abbrev Lb (N P:List Str)(sc:Scope):Bool:=decide (sc.kind=.function)&&(!sc.isCoroutine&&(!sc.isGenerator&&(JB N&&(N.take P.length ==P&&(all2 P (λx=>match sc.names.lookup x with|some .local=>true|some .cell=>true|_=>false)&&all2 sc.names (λy=>match y.2 with| .free=>false|_=>true))))))
def so {N P:List Str}{sc:Scope}(h:Lb N P sc=true):ki N P sc:=by
 unfold Lb at h;simp only[nl,decide_eq_true_eq]at h;refine⟨h.1,by simpa using h.2.1,by simpa using h.2.2.1,w4 h.2.2.2.1,beq_iff_eq.mp h.2.2.2.2.1,λx hx=>?_,λy hy e=>?_⟩
 .have:=aC h.2.2.2.2.2.1 x hx
  split at this
  .rename_i e;exact .inl e
  .rename_i e;exact .inr e
  .cases this
 .have:=aC h.2.2.2.2.2.2 y hy;rw[e]at this;cases this
abbrev Ki:V->Value->Bool
 | .non,.none=>true
 | .bl b,.bool c=>b ==c
 | .int i,.int j _=>i ==j
 | .str s,.str s' _=>s ==s'
 |_,_=>false
def F9 {v:V}{u:Value}(h:Ki v u=true):RelV v u:=by
 unfold Ki at h
 split at h
 .rfl
 .rw[beq_iff_eq.mp h];rfl
 .rw[beq_iff_eq.mp h];exact⟨_,rfl⟩
 .rw[beq_iff_eq.mp h];exact⟨_,rfl⟩
 .cases h
abbrev yi:List V->List Value->Bool
 | [],[]=>true
 |v::vs,u::us=>Ki v u&&yi vs us
 |_,_=>false
def oq:∀ {vs:List V}{us:List Value},yi vs us=true->Vals vs us
 | [],[],_=>.nil
 |v::vs,u::us,h=>by
  unfold yi at h;rw[nl]at h;exact .cons (F9 h.1) (oq h.2)
 | [],_::_,h=>by cases h
 |_::_,[],h=>by cases h
abbrev Kv (K:Frag)(fd:FuncData)(d:aq):Bool:=match fd.defaults with
 | .none=>d.dfl.isEmpty
 | .ref T=>!d.dfl.isEmpty&&(match K.lookup T with
  |some o=>(match o.data with| .seq items _=>yi d.dfl items.toList&&decide (items.toList.length<=d.ps.length)|_=>false)
  |none=>false)
 |_=>false
abbrev Dr (K:Frag)(T:Tab)(f:Addr)(d:aq):Bool:=match K.lookup f with
 |some ⟨_,_,.func fd,_⟩=>(match fd.body with
  | .stmts body=>decide (fd.globals=mainGlobals)&&(fd.closure.isEmpty&&(decide (fd.builtins=builtinsNs)&&(codeIn K fd.code fd.qualname&&(Lb d.N d.ps fd.scope&&(mB ⟨T,fd.scope,d.N⟩ d.body body&&
   (fd.params.posonlyargs.isEmpty&&(fd.params.args.map (·.arg) ==d.ps&&(fd.params.kwonlyargs.isEmpty&&(fd.params.vararg.isNone&&(fd.params.kwarg.isNone&&Kv K fd d))))))))))
  |_=>false)
 |_=>false
variable {d:aq}
def E7 {f:Addr}(h:Dr K T f d=true):vQ K T f d:=by
 unfold Dr at h
 split at h
 .rename_i oc od fd sl e;obtain⟨name,qual,params,body,scope,glo,cw,dV,kV,doc,pm,an,cdv,ct,bu⟩:=fd;dsimp only at h
  split at h
  .rename_i body;simp only[nl,decide_eq_true_eq,isEmpty_iff,Option.isNone_iff_eq_none]at h;obtain⟨h1,h2,h3,h4,h5,h6,h7,h8,h9,h10,h11,h12⟩:=h;subst h1 h2 h3;have S:=so h5;have nd:d.ps.Nodup:=by
    rw[<-S.pre];exact S.nd.sublist (take_sublist _ _)
   refine⟨⟨name,qual,params,body,scope,dV,kV,doc,pm,cdv,ct,oc,od,an,sl,e,h4,S,h6,?_⟩⟩;unfold Kv at h12;dsimp only at h12
   split at h12
   .rw[isEmpty_iff.mp h12];exact ED (.all λus hl=>qe nd h7 (beq_iff_eq.mp h8) h9 h10 h11 rfl us hl)
   .rename_i T0;rw[nl]at h12;have h12:=h12.2
    split at h12
    .rename_i o ho
     split at h12
     .rename_i items c hs;rw[nl,decide_eq_true_eq]at h12;intro j;refine⟨items.toList.drop j,?_,m8 j (oq h12.1)⟩;refine Be (n:=d.ps.length-(items.toList.drop j).length) rfl ho hs (by rw[jp];omega) λus hl=>?_
      rw[jp]at hl;obtain⟨k,k1,k2⟩:=xp (fd:=fnOf name qual params body scope (.ref T0) kV doc pm an cdv ct) (items:=items) nd h7 (beq_iff_eq.mp h8) h9 h10 h11 rfl us nofun h12.2 nofun;refine⟨k,k1,?_⟩;rw[k2]
      by_cases e:j<=items.toList.length
      .rw[show us.length+items.toList.length-d.ps.length=j by omega]
      .rw[show us.length+items.toList.length-d.ps.length=items.toList.length by omega,List.drop_length,List.drop_eq_nil_of_le (by omega:items.toList.length<=j)]
     .cases h12
    .cases h12
   .cases h12
  .cases h
 .cases h
abbrev md (K:Frag)(T:Tab)(fs:List Addr):Nat->List aq->Bool
 |_,[]=>true
 |n,d::r=>Dr K T (fs.getD n 0) d&&md K T fs (n+1) r
def t8 {K:Frag}{T:Tab}{fs:List Addr}:∀ {l:List aq}{n:Nat},md K T fs n l=true->uG (λf d=>vQ K T (fs.getD f 0) d) n l
 | [],_,_=>True.intro
 |d::r,n,h=>by
  unfold md at h;rw[nl]at h;exact⟨E7 h.1,t8 h.2⟩
def B7 (h:md K T fs 0 T.fns=true):∀ f d,T.fns[f]? =some d->vQ K T (fs.getD f 0) d:=tS (P:=λf d=>vQ K T (fs.getD f 0) d) (t8 h)
def t5 {K:Frag}{T:Tab}{fs:List Addr}:∀ {l:List aq}{n f:Nat}{d:aq},md K T fs n l=true->l[f]? =some d->Dr K T (fs.getD (n+f) 0) d=true
 | [],_,_,_,_,e=>by simp at e
 |a::r,n,0,d,h,e=>by
  unfold md at h;rw[nl]at h;have:a=d:=by simpa using e
  subst this;exact h.1
 |a::r,n,f+1,d,h,e=>by
  unfold md at h;rw[nl]at h;have:=t5 h.2 (f:=f) (d:=d) (by simpa using e)
  rwa [Nat.add_assoc,Nat.add_comm 1 f]at this
def De {fl:Nat}(z:md K T fs 0 T.fns=true)(hd:T.fns[fl]? =some d)(hp:d.ps=[("_law_script":Str)]) (hf:d.dfl=[]):
  ∃ oc od fd sl,K.lookup (fs.getD fl 0)=some ⟨oc,od,.func fd,sl⟩/\∀ (s:Shared) (v:Value),BindsTo s fd ⟨[v],[]⟩ [("_law_script",v)]:=by
 have h:=t5 z hd;rw[Nat.zero_add]at h;unfold Dr at h
 split at h
 .rename_i oc od fd sl e;refine⟨oc,od,fd,sl,e,λs v=>?_⟩
  split at h
  .rename_i body hb;simp only[nl,decide_eq_true_eq,isEmpty_iff,Option.isNone_iff_eq_none]at h;obtain⟨h1,h2,h3,h4,h5,h6,h7,h8,h9,h10,h11,h12⟩:=h;have nd:d.ps.Nodup:=by
    rw[<-(so h5).pre];exact(so h5).nd.sublist (take_sublist _ _)
   unfold Kv at h12;rw[hf]at h12;have e6:fd.defaults=.none:=by
    split at h12
    .rename_i e;exact e
    .rw[nl]at h12;cases h12.1
    .cases h12
   have:=qe nd h7 (beq_iff_eq.mp h8) h9 h10 h11 e6 [v] (by rw[hp];rfl);rw[hp]at this;exact .of_eq this
  .cases h
 .cases h
def Cb {P:Program}{w:World}{h:Heap}{fa:Addr}{cs:List Addr}{fl k:Nat}(X:K.In h)(G:h.Ns mainGlobals mg)(hfa:mg "law"=some (.ref fa))
  (z1:CL K T fs cs gs=true) (z2:md K T fs 0 T.fns=true) (z3:DG (nsIn K mainGlobals "law") (fs.getD fl 0)=true) (hd:T.fns[fl]? =some d) (hp:d.ps=[("_law_script":Str)]) (hf:d.dfl=[])
  (ht:∀ vs H Q E,jg K 63 vs H Q E->ae T (Et K fs cs gs) k fl vs H Q E):
  ∃ fd:FuncData,(∀ (s:Shared) (v:Value),BindsTo s fd ⟨[v],[]⟩ [("_law_script",v)])/\∀ base:Heap,K.In base->base.Ns mainGlobals mg->dy P w K mg base (xE P w) (2*k) fa fd ["_law_script"] (jg K 63):=by
 have e0:fs.getD fl 0=fa:=by
  have e:=hfa.symm.trans (mg_of X G (gh z3))
  injection e with e
  injection e with e
  exact e.symm
 have fn:=B7 z2;have tk:=CB X G z1;have N:=fn fl d hd;have hN:=De z2 hd;obtain⟨oc,od,fd,sl,e,hb⟩:=hN hp hf;refine⟨fd,hb,λbase hb hg=>?_⟩;have F:=F6 (P:=P) (w:=w) (base:=base) (R:=Et K fs cs gs) tk rfl fn k fl d hd (fd:=fd) (lk:=e) (pS▸ht);rw[hp]at F;rw[<-e0];exact F
abbrev Lq (K:Frag)(a:Addr)(vs:List V):Bool:=match K.lookup a with
 |some ⟨.type t,_,.seq items _,_⟩=>t =="tuple"&&(decide (items.size<=1000)&&yi vs items.toList)
 |_=>false
def yz {a:Addr}{vs:List V}(h:Lq K a vs=true)(H:Hp):bc K H a vs:=by
 unfold Lq at h
 split at h
 .rename_i t od items n sl e;simp only[nl,decide_eq_true_eq]at h;refine .inr ⟨_,items,n,e,?_,rfl,?_,oq h.2.2⟩
  .show Value.type t=_;rw[beq_iff_eq.mp h.1]
  .exact Nat.le_of_lt (dc h.2.1)
 .cases h
end L3
namespace L3
open PySem L2
noncomputable abbrev gc.c (e:Ex)(r:gc):gc:=.cons e r
noncomputable abbrev gc.n:gc:=.nil
noncomputable abbrev lY.c (e:Sx)(r:lY):lY:=.cons e r
noncomputable abbrev lY.n:lY:=.nil
noncomputable abbrev Ay.c (a b:Nat)(e:lY)(r:Ay):Ay:=.cons a b e r
noncomputable abbrev Ay.n:Ay:=.nil
noncomputable abbrev Ex.i (x:Int):Ex:=.int x
noncomputable abbrev Ex.s (x:Str):Ex:=.str x
noncomputable abbrev Ex.k (x:Nat)(e:gc):Ex:=.call x e
noncomputable abbrev Ex.m (a:Ex)(x:Str)(e:gc):Ex:=.meth a x e
noncomputable abbrev Ex.f (c:Tx)(a b:Ex):Ex:=.ife c a b
noncomputable abbrev Ex.q (o:CmpOp)(a b:Ex):Ex:=.cmp o a b
noncomputable abbrev Tx.q (o:CmpOp)(a b:Ex):Tx:=.cmp o a b
noncomputable abbrev Sx.a (x:Nat)(e:Ex):Sx:=.asg x e
noncomputable abbrev Sx.r (e:Ex):Sx:=.ret e
noncomputable abbrev Sx.f (c:Tx)(a b:lY):Sx:=.ife c a b
noncomputable abbrev Sx.e (e:Ex):Sx:=.expr e
end L3
set_option Elab.async false
set_option maxHeartbeats 8000000
open PySem PySem.Spec L2 L3
namespace My
open PySem L2 L3
set_option hygiene false
local macro_rules|`(#[])=>`(.n)|`(#[$x:term])=>`(.c $x .n)|`(#[$x:term,$xs:term,*])=>`(.c $x #[$xs,*])
set_option hygiene true
abbrev cI:aq:=⟨["self","at"],["self","at"],[],#[.e (.bini #[.v 0,.s "no list of 1 to 60 contents"]),.fld (.v 0) "at" (.v 1)]⟩
abbrev cP:aq:=⟨["self","low","behind","word"],["self","low","behind","word"],[],#[.e (.bini #[.v 0,.s "no stretch of the store, or no word for a leave"]),.fld (.v 0) "low" (.v 1),.fld (.v 0) "behind" (.v 2),.fld (.v 0) "word" (.v 3)]⟩
abbrev d7:aq:=⟨["self","deed","cell"],["self","deed","cell"],[],#[.e (.bini #[.v 0,.s "a cell that is not there, or may not be looked at or put"]),.fld (.v 0) "deed" (.v 1),.fld (.v 0) "cell" (.v 2)]⟩
abbrev dg:aq:=⟨["self","box","number"],["self","box","number"],[],#[.e (.bini #[.v 0,.s "a box can't hold this"]),.fld (.v 0) "box" (.v 1),.fld (.v 0) "number" (.v 2)]⟩
abbrev iW:aq:=⟨["self","box"],["self","box"],[],#[.e (.bini #[.v 0,.s "no box of that name"]),.fld (.v 0) "box" (.v 1)]⟩
abbrev gM:aq:=⟨["self","word"],["self","word"],[],#[.e (.bini #[.v 0,.s "a deed can't be made of this"]),.fld (.v 0) "word" (.v 1)]⟩
abbrev gU:aq:=⟨["self","at"],["self","at"],[],#[.e (.bini #[.v 0,.s "no list of 1 to 24 deeds"]),.fld (.v 0) "at" (.v 1)]⟩
abbrev gm:aq:=⟨["self","at"],["self","at"],[],#[.e (.bini #[.v 0,.s "no place to stand at"]),.fld (.v 0) "at" (.v 1)]⟩
abbrev gI:aq:=⟨["self","at"],["self","at"],[],#[.e (.bini #[.v 0,.s "no part of the floor for this member"]),.fld (.v 0) "at" (.v 1)]⟩
abbrev fJ:aq:=⟨["self","k"],["self","k"],[],#[.e (.bini #[.v 0,.s "no member of that number"]),.fld (.v 0) "k" (.v 1)]⟩
abbrev kU:aq:=⟨["thing"],["thing"],[],#[.r (.and (.isi (.v 0) (.ty "int")) (.not (.isi (.v 0) (.ty "bool"))))]⟩
abbrev gT:aq:=⟨["thing"],["thing"],[],#[.r (.and (.k 10 #[.v 0]) (.cmp2 .LtE .LtE (.i 0) (.v 0) (.gl "BOUND")))]⟩
abbrev kM:aq:=⟨["thing"],["thing"],[],#[.r (.and (.isi (.v 0) (.ty "str")) (.q .In (.v 0) (.gl "NAMES")))]⟩
abbrev jH:aq:=⟨["thing"],["thing"],[],#[.r (.and (.k 10 #[.v 0]) (.cmp2 .LtE .LtE (.neg (.gl "BOUND")) (.v 0) (.gl "BOUND")))]⟩
abbrev yd:aq:=⟨["box","thing"],["box","thing"],[],#[.f (.or (.q .Eq (.v 0) (.s "here")) (.q .Eq (.v 0) (.s "there"))) #[.r (.k 13 #[.v 1])] .n,.f (.q .Eq (.v 0) (.s "way")) #[.r (.and (.k 10 #[.v 1]) (.or (.q .Eq (.v 1) (.i 1)) (.q .Eq (.v 1) (.neg (.i 1)))))] .n,.f (.q .Eq (.v 0) (.s "met")) #[.r (.and (.k 10 #[.v 1]) (.or (.q .Eq (.v 1) (.i 0)) (.q .Eq (.v 1) (.i 1))))] .n,.r (.k 11 #[.v 1])]⟩
abbrev dB:aq:=⟨["self","here","there","left","way","sign","met"],["self","here","there","left","way","sign","met","handed","box","number"],[.int 0,.int 0,.int 0,.int 1,.int 0,.int 0],#[.a 7 (.tup #[.v 1,.v 2,.v 3,.v 4,.v 5,.v 6]),.for (.tp [8,9]) (.zip (.gl "NAMES") (.v 7)) #[.f (.not (.val (.k 14 #[.v 8,.v 9]))) #[.rais (.make 4 #[.v 8,.v 9])] .n],.fld (.v 0) "numbers" (.dzip (.gl "NAMES") (.v 7))]⟩
abbrev fT:aq:=⟨["self","box"],["self","box"],[],#[.f (.not (.val (.k 12 #[.v 1]))) #[.rais (.make 5 #[.v 1])] .n,.r (.ix (.fld (.v 0) "numbers") (.v 1))]⟩
abbrev dF:aq:=⟨["self","box","number"],["self","box","number"],[],#[.f (.not (.val (.k 12 #[.v 1]))) #[.rais (.make 5 #[.v 1])] .n,.f (.not (.val (.k 14 #[.v 1,.v 2]))) #[.rais (.make 4 #[.v 1,.v 2])] .n,.sub (.fld (.v 0) "numbers") (.v 1) (.v 2)]⟩
abbrev gL:aq:=⟨["self"],["self"],[],#[.r (.bf .tuple #[.lc (.ix (.fld (.v 1) "numbers") (.v 0)) [0] (.seq (.gl "NAMES"))])]⟩
abbrev ff:aq:=⟨["self"],["self","other"],[],#[.a 1 (.make 11 .n),.fld (.v 1) "numbers" (.bf .dict #[.fld (.v 0) "numbers"]),.r (.v 1)]⟩
abbrev jI:aq:=⟨["word","box"],["word","box"],[],#[.f (.not (.val (.k 12 #[.v 1]))) #[.rais (.make 6 #[.v 0])] .n]⟩
abbrev eC:aq:=⟨["word","number"],["word","number"],[],#[.f (.not (.val (.k 13 #[.v 1]))) #[.rais (.make 6 #[.v 0])] .n]⟩
abbrev fh:aq:=⟨["self","box","number"],["self","box","number"],[],#[.e (.k 20 #[.s "set",.v 1]),.e (.k 21 #[.s "set",.v 2]),.fld (.v 0) "box" (.v 1),.fld (.v 0) "number" (.v 2)]⟩
abbrev lN:aq:=⟨["self","boxes","store"],["self","boxes","store"],[],#[.e (.m (.v 1) "give" #[.fld (.v 0) "box",.fld (.v 0) "number"]),.r (.i 1)]⟩
abbrev qA:aq:=⟨["self"],["self"],[],#[.r (.lst #[.s "set",.fld (.v 0) "box",.bf .str #[.fld (.v 0) "number"]])]⟩
abbrev fg:aq:=⟨["self","box","number"],["self","box","number"],[],#[.e (.k 20 #[.s "add",.v 1]),.e (.k 21 #[.s "add",.v 2]),.fld (.v 0) "box" (.v 1),.fld (.v 0) "number" (.v 2)]⟩
abbrev lC:aq:=⟨["self","boxes","store"],["self","boxes","store"],[],#[.e (.m (.v 1) "give" #[.fld (.v 0) "box",.bin .Add (.m (.v 1) "holds" #[.fld (.v 0) "box"]) (.fld (.v 0) "number")]),.r (.i 1)]⟩
abbrev qi:aq:=⟨["self"],["self"],[],#[.r (.lst #[.s "add",.fld (.v 0) "box",.bf .str #[.fld (.v 0) "number"]])]⟩
abbrev dZ:aq:=⟨["self","box","other"],["self","box","other"],[],#[.e (.k 20 #[.s "take",.v 1]),.e (.k 20 #[.s "take",.v 2]),.fld (.v 0) "box" (.v 1),.fld (.v 0) "other" (.v 2)]⟩
abbrev jr:aq:=⟨["self","boxes","store"],["self","boxes","store"],[],#[.e (.m (.v 1) "give" #[.fld (.v 0) "box",.m (.v 1) "holds" #[.fld (.v 0) "other"]]),.r (.i 1)]⟩
abbrev pd:aq:=⟨["self"],["self"],[],#[.r (.lst #[.s "take",.fld (.v 0) "box",.fld (.v 0) "other"])]⟩
abbrev dP:aq:=⟨["self","box"],["self","box"],[],#[.e (.k 20 #[.s "read",.v 1]),.fld (.v 0) "box" (.v 1)]⟩
abbrev ji:aq:=⟨["self","boxes","store"],["self","boxes","store"],[],#[.e (.m (.v 1) "give" #[.fld (.v 0) "box",.m (.v 2) "look" #[.m (.v 1) "holds" #[.s "here"]]]),.r (.i 1)]⟩
abbrev nG:aq:=⟨["self"],["self"],[],#[.r (.lst #[.s "read",.fld (.v 0) "box"])]⟩
abbrev dm:aq:=⟨["self","box"],["self","box"],[],#[.e (.k 20 #[.s "write",.v 1]),.fld (.v 0) "box" (.v 1)]⟩
abbrev g9:aq:=⟨["self","boxes","store"],["self","boxes","store","number"],[],#[.a 3 (.m (.v 1) "holds" #[.fld (.v 0) "box"]),.f (.not (.val (.k 11 #[.v 3]))) #[.rais (.make 4 #[.fld (.v 0) "box",.v 3])] .n,.e (.m (.v 2) "put" #[.m (.v 1) "holds" #[.s "there"],.v 3]),.r (.i 1)]⟩
abbrev lV:aq:=⟨["self"],["self"],[],#[.r (.lst #[.s "write",.fld (.v 0) "box"])]⟩
abbrev hX:aq:=⟨["rows"],["rows","at","thing"],[],#[.f (.or (.not (.val (.isi (.v 0) (.ty "list")))) (.not (.cmp2 .LtE .LtE (.i 1) (.bf .len #[.v 0]) (.gl "MOST_ROWS")))) #[.rais (.make 7 #[.neg (.i 1)])] .n,.for (.tp [1,2]) (.enm (.v 0)) #[.f (.not (.val (.isi (.v 2) (.own 12)))) #[.rais (.make 7 #[.v 1])] .n]]⟩
abbrev fO:aq:=⟨["at","many"],["at","many"],[],#[.f (.or (.not (.val (.k 10 #[.v 0]))) (.not (.cmp2 .LtE .LtE (.i 0) (.v 0) (.v 1)))) #[.rais (.make 8 #[.v 0])] .n]⟩
abbrev uf:aq:=⟨["deed","boxes","store"],["deed","boxes","store","stop","refusal"],[],#[.tryx #[.r (.tup #[.m (.v 0) "step" #[.v 1,.v 2],.non])] (.c 3 3 #[.r (.tup #[.non,.tup #[.fld (.v 3) "deed",.fld (.v 3) "cell"]])] (.c 4 4 #[.r (.tup #[.non,.tup #[.s "fit",.fld (.v 4) "box"]])] .n))]⟩
abbrev cQ:aq:=⟨["self","rows","store","boxes","at"],["self","rows","store","boxes","at"],[.int 0],#[.e (.k 37 #[.v 1]),.e (.k 38 #[.v 4,.bf .len #[.v 1]]),.fld (.v 0) "deeds" (.bf .list #[.v 1]),.fld (.v 0) "store" (.m (.v 2) "copied" .n),.fld (.v 0) "boxes" (.m (.v 3) "copied" .n),.fld (.v 0) "at" (.v 4)]⟩
abbrev dW:aq:=⟨["self"],["self"],[],#[.r (.q .Eq (.fld (.v 0) "at") (.bf .len #[.fld (.v 0) "deeds"]))]⟩
abbrev c4:aq:=⟨["self","store"],["self","store","by"],[],#[.f (.val (.m (.v 0) "ended" .n)) #[.r (.s "end")] .n,.a 2 (.ix (.k 39 #[.ix (.fld (.v 0) "deeds") (.fld (.v 0) "at"),.fld (.v 0) "boxes",.v 1]) (.i 0)),.f (.q .Is (.v 2) .non) #[.r (.s "stop")] .n,.fld (.v 0) "at" (.bf .min #[.bin .Add (.fld (.v 0) "at") (.v 2),.bf .len #[.fld (.v 0) "deeds"]]),.r (.s "on")]⟩
abbrev fj:aq:=⟨["self"],["self"],[],#[.r (.m (.v 0) "step_on" #[.fld (.v 0) "store"])]⟩
abbrev d6:aq:=⟨["self"],["self"],[],#[.r (.tup #[.fld (.v 0) "at",.m (.fld (.v 0) "boxes") "told" .n,.m (.fld (.v 0) "store") "told" .n])]⟩
abbrev dY:aq:=⟨["self","low","behind","word"],["self","low","behind","word"],[],#[.e (.m (.fld (.v 0) "store") "leave" #[.v 1,.v 2,.v 3])]⟩
abbrev kQ:aq:=⟨["self"],["self"],[],#[.r (.lc (.m (.v 0) "words" .n) [] (.seq (.fld (.v 0) "deeds")))]⟩
abbrev iS:aq:=⟨["self"],["self"],[],#[.r (.make 18 #[.fld (.v 0) "deeds",.fld (.v 0) "store",.fld (.v 0) "boxes",.fld (.v 0) "at"])]⟩
abbrev fS:aq:=⟨["cells"],["cells","at","thing"],[],#[.f (.or (.not (.val (.isi (.v 0) (.ty "list")))) (.not (.cmp2 .LtE .LtE (.i 1) (.bf .len #[.v 0]) (.gl "MOST_CELLS")))) #[.rais (.make 1 #[.neg (.i 1)])] .n,.for (.tp [1,2]) (.enm (.v 0)) #[.f (.not (.val (.k 11 #[.v 2]))) #[.rais (.make 1 #[.v 1])] .n]]⟩
abbrev kS:aq:=⟨["word"],["word"],[],#[.r (.and (.isi (.v 0) (.ty "str")) (.q .In (.v 0) (.gl "LEAVES")))]⟩
abbrev jl:aq:=⟨["low","behind","size"],["low","behind","size"],[],#[.r (.and (.k 10 #[.v 0]) (.and (.k 10 #[.v 1]) (.cmp3 .LtE .LtE .LtE (.i 0) (.v 0) (.v 1) (.v 2))))]⟩
abbrev du:aq:=⟨["self","cells"],["self","cells"],[],#[.e (.k 48 #[.v 1]),.fld (.v 0) "contents" (.bf .list #[.v 1]),.fld (.v 0) "permits" (.bin .Mult (.lst #[.s "open"]) (.bf .len #[.v 1]))]⟩
abbrev iH:aq:=⟨["self"],["self"],[],#[.r (.bf .len #[.fld (.v 0) "contents"])]⟩
abbrev gz:aq:=⟨["self"],["self"],[],#[.r (.bf .list #[.fld (.v 0) "contents"])]⟩
abbrev fQ:aq:=⟨["self","low","behind","word"],["self","low","behind","word","cell"],[],#[.f (.or (.not (.val (.k 50 #[.v 1,.v 2,.m (.v 0) "size" .n]))) (.not (.val (.k 49 #[.v 3])))) #[.rais (.make 2 #[.v 1,.v 2,.v 3])] .n,.for (.nm 4) (.rng2 (.v 1) (.v 2)) #[.sub (.fld (.v 0) "permits") (.v 4) (.v 3)]]⟩
abbrev jK:aq:=⟨["self","deed","cell"],["self","deed","cell"],[],#[.f (.not (.cmp2 .LtE .Lt (.i 0) (.v 2) (.m (.v 0) "size" .n))) #[.r (.bl false)] .n,.f (.q .Eq (.ix (.fld (.v 0) "permits") (.v 2)) (.s "look")) #[.r (.q .Eq (.v 1) (.s "look"))] .n,.r (.q .Eq (.ix (.fld (.v 0) "permits") (.v 2)) (.s "open"))]⟩
abbrev iw:aq:=⟨["self","cell"],["self","cell"],[],#[.f (.not (.val (.m (.v 0) "may" #[.s "look",.v 1]))) #[.rais (.make 3 #[.s "look",.v 1])] .n,.r (.ix (.fld (.v 0) "contents") (.v 1))]⟩
abbrev jE:aq:=⟨["self","cell","content"],["self","cell","content"],[],#[.f (.not (.val (.m (.v 0) "may" #[.s "put",.v 1]))) #[.rais (.make 3 #[.s "put",.v 1])] .n,.sub (.fld (.v 0) "contents") (.v 1) (.v 2)]⟩
abbrev fu:aq:=⟨["self"],["self","other"],[],#[.a 1 (.make 19 #[.lst #[.i 0]]),.fld (.v 1) "contents" (.bf .list #[.fld (.v 0) "contents"]),.fld (.v 1) "permits" (.bf .list #[.fld (.v 0) "permits"]),.r (.v 1)]⟩
abbrev kx:aq:=⟨["one","other"],["one","other","low","behind"],[],#[.a 2 (.bf .max #[.ix (.v 0) (.i 0),.ix (.v 1) (.i 0)]),.a 3 (.bf .min #[.ix (.v 0) (.i 1),.ix (.v 1) (.i 1)]),.f (.q .Lt (.v 2) (.v 3)) #[.r (.tup #[.v 2,.v 3])] .n,.r .non]⟩
abbrev uP:aq:=⟨["stretches"],["stretches","place","stretch","earlier"],[],#[.for (.tp [1,2]) (.enm (.v 0)) #[.for (.nm 3) (.seq (.sl (.v 0) .no (.yes (.v 1)))) #[.f (.q .IsNot (.k 59 #[.v 3,.v 2]) .non) #[.r (.bl false)] .n]],.r (.bl true)]⟩
abbrev jb:aq:=⟨["thing"],["thing"],[],#[.r (.and (.isi (.v 0) (.ty "tuple")) (.q .Eq (.bf .len #[.v 0]) (.gl "THINGS_OF_A_MEMBER")))]⟩
abbrev fX:aq:=⟨["thing"],["thing"],[],#[.f (.or (.not (.val (.isi (.v 0) (.ty "list")))) (.not (.cmp2 .LtE .LtE (.i 1) (.bf .len #[.v 0]) (.gl "MOST_MEMBERS")))) #[.r (.bl false)] .n,.r (.bf .all #[.lc (.k 61 #[.v 0]) [] (.seq (.v 0))])]⟩
abbrev mF:aq:=⟨["part","size"],["part","size"],[],#[.r (.and (.k 50 #[.ix (.v 0) (.i 0),.ix (.v 0) (.i 1),.v 1]) (.q .Lt (.ix (.v 0) (.i 0)) (.ix (.v 0) (.i 1))))]⟩
abbrev lz:aq:=⟨["members","size"],["members","size","parts","at","member","part"],[],#[.f (.not (.val (.k 62 #[.v 0]))) #[.rais (.make 9 #[.neg (.i 1)])] .n,.a 2 (.lst .n),.for (.tp [3,4]) (.enm (.v 0)) #[.a 5 (.tup #[.ix (.v 4) (.i 0),.ix (.v 4) (.i 1)]),.f (.or (.not (.val (.k 63 #[.v 5,.v 1]))) (.not (.val (.k 60 #[.bin .Add (.v 2) (.lst #[.v 5])])))) #[.rais (.make 9 #[.v 3])] .n,.e (.lm .append (.v 2) #[.v 5])],.r (.v 2)]⟩
abbrev hE:aq:=⟨["cells","part","member"],["cells","part","member"],[],#[.r (.make 18 #[.ix (.v 2) (.i 2),.make 19 #[.sl (.v 0) (.yes (.ix (.v 1) (.i 0))) (.yes (.ix (.v 1) (.i 1)))],.ix (.v 2) (.i 3)])]⟩
abbrev dU:aq:=⟨["self","cells","members"],["self","cells","members"],[],#[.fld (.v 0) "ground" (.make 19 #[.v 1]),.fld (.v 0) "parts" (.k 64 #[.v 2,.m (.fld (.v 0) "ground") "size" .n]),.fld (.v 0) "machines" (.lct (.k 65 #[.v 2,.v 0,.v 1]) 2 [1] (.zip (.fld (.v 0) "parts") (.v 2)))]⟩
abbrev cu:aq:=⟨["self","k"],["self","k"],[],#[.f (.or (.not (.val (.k 10 #[.v 1]))) (.not (.cmp2 .LtE .Lt (.i 0) (.v 1) (.bf .len #[.fld (.v 0) "machines"])))) #[.rais (.make 10 #[.v 1])] .n]⟩
abbrev cW:aq:=⟨["self","k"],["self","k"],[],#[.e (.m (.v 0) "check_member" #[.v 1]),.r (.ix (.fld (.v 0) "machines") (.v 1))]⟩
abbrev jn:aq:=⟨["self","k"],["self","k"],[],#[.r (.m (.m (.v 0) "machine_of" #[.v 1]) "step" .n)]⟩
abbrev pH:aq:=⟨["self","k"],["self","k"],[],#[.r (.m (.m (.v 0) "machine_of" #[.v 1]) "state" .n)]⟩
abbrev gA:aq:=⟨["self"],["self","cells","part","machine"],[],#[.a 1 (.m (.fld (.v 0) "ground") "told" .n),.for (.tp [2,3]) (.zip (.fld (.v 0) "parts") (.fld (.v 0) "machines")) #[.a 1 (.bin .Add (.bin .Add (.sl (.v 1) .no (.yes (.ix (.v 2) (.i 0)))) (.ix (.m (.v 3) "state" .n) (.i 2))) (.sl (.v 1) (.yes (.ix (.v 2) (.i 1))) .no))],.r (.v 1)]⟩
abbrev dM:aq:=⟨["self","low","behind","word"],["self","low","behind","word","part","machine","both"],[],#[.e (.m (.fld (.v 0) "ground") "leave" #[.v 1,.v 2,.v 3]),.for (.tp [4,5]) (.zip (.fld (.v 0) "parts") (.fld (.v 0) "machines")) #[.a 6 (.k 59 #[.tup #[.v 1,.v 2],.v 4]),.f (.q .IsNot (.v 6) .non) #[.e (.m (.v 5) "leave" #[.bin .Sub (.ix (.v 6) (.i 0)) (.ix (.v 4) (.i 0)),.bin .Sub (.ix (.v 6) (.i 1)) (.ix (.v 4) (.i 0)),.v 3])] .n]]⟩
abbrev mG:aq:=⟨["thing"],["thing"],[],#[.r (.and (.k 10 #[.v 0]) (.cmp2 .LtE .LtE (.i 0) (.v 0) (.gl "MOST_HOPPED")))]⟩
abbrev uQ:aq:=⟨["thing"],["thing"],[],#[.r (.or (.q .Is (.v 0) .non) (.and (.k 10 #[.v 0]) (.or (.q .Eq (.v 0) (.i 0)) (.q .Eq (.v 0) (.i 1)))))]⟩
abbrev eO:aq:=⟨["self","many","on"],["self","many","on"],[.non],#[.f (.or (.not (.val (.k 73 #[.v 1]))) (.not (.val (.k 74 #[.v 2])))) #[.rais (.make 6 #[.s "hop"])] .n,.fld (.v 0) "many" (.v 1),.fld (.v 0) "on" (.v 2)]⟩
abbrev kJ:aq:=⟨["self","boxes","store"],["self","boxes","store"],[],#[.f (.or (.q .Is (.fld (.v 0) "on") .non) (.q .Eq (.fld (.v 0) "on") (.m (.v 1) "holds" #[.s "met"]))) #[.r (.bin .Add (.i 1) (.fld (.v 0) "many"))] .n,.r (.i 1)]⟩
abbrev pP:aq:=⟨["self"],["self","told"],[],#[.a 1 (.lst #[.s "hop",.bf .str #[.fld (.v 0) "many"]]),.f (.q .IsNot (.fld (.v 0) "on") .non) #[.e (.lm .extend (.v 1) #[.lst #[.s "if",.bf .str #[.fld (.v 0) "on"]]])] .n,.r (.v 1)]⟩
abbrev nP:aq:=⟨["boxes","box","by"],["boxes","box","by"],[],#[.e (.m (.v 0) "give" #[.v 1,.bin .Add (.m (.v 0) "holds" #[.v 1]) (.v 2)])]⟩
abbrev eJ:aq:=⟨["boxes","box"],["boxes","box"],[],#[.e (.k 78 #[.v 0,.v 1,.m (.v 0) "holds" #[.s "way"]])]⟩
abbrev ju:aq:=⟨["boxes","by"],["boxes","by"],[],#[.e (.k 78 #[.v 0,.s "left",.neg (.v 1)]),.r (.f (.q .Eq (.m (.v 0) "holds" #[.s "left"]) (.i 0)) (.i 1) (.i 0))]⟩
abbrev m9:aq:=⟨["store","cell"],["store","cell"],[],#[.f (.not (.val (.m (.v 0) "may" #[.s "put",.v 1]))) #[.rais (.make 3 #[.s "put",.v 1])] .n]⟩
abbrev x8:aq:=⟨["store","source","target"],["store","source","target","content"],[],#[.a 3 (.m (.v 0) "look" #[.v 1]),.e (.m (.v 0) "put" #[.v 2,.v 3])]⟩
abbrev lB:aq:=⟨["store","one","other"],["store","one","other","first","second"],[],#[.a 3 (.m (.v 0) "look" #[.v 1]),.a 4 (.m (.v 0) "look" #[.v 2]),.e (.k 81 #[.v 0,.v 1]),.e (.k 81 #[.v 0,.v 2]),.e (.m (.v 0) "put" #[.v 1,.v 4]),.e (.m (.v 0) "put" #[.v 2,.v 3])]⟩
abbrev i9:aq:=⟨["self","boxes","store"],["self","boxes","store"],[],#[.f (.q .Eq (.m (.v 1) "holds" #[.s "left"]) (.i 0)) #[.r (.i 1)] .n,.e (.k 82 #[.v 2,.m (.v 1) "holds" #[.s "here"],.m (.v 1) "holds" #[.s "there"]]),.e (.k 79 #[.v 1,.s "here"]),.e (.k 79 #[.v 1,.s "there"]),.r (.k 80 #[.v 1,.i 1])]⟩
abbrev oh:aq:=⟨["self"],["self"],[],#[.r (.lst #[.s "copy"])]⟩
abbrev jm:aq:=⟨["self","boxes","store"],["self","boxes","store"],[],#[.f (.q .Eq (.m (.v 1) "holds" #[.s "left"]) (.i 0)) #[.r (.i 1)] .n,.e (.m (.v 2) "put" #[.m (.v 1) "holds" #[.s "there"],.m (.v 1) "holds" #[.s "sign"]]),.e (.k 79 #[.v 1,.s "there"]),.r (.k 80 #[.v 1,.i 1])]⟩
abbrev nQ:aq:=⟨["self"],["self"],[],#[.r (.lst #[.s "fill"])]⟩
abbrev jC:aq:=⟨["self","boxes","store"],["self","boxes","store"],[],#[.f (.q .Eq (.m (.v 1) "holds" #[.s "left"]) (.i 0)) #[.e (.m (.v 1) "give" #[.s "met",.i 0]),.r (.i 1)] .n,.f (.q .Eq (.m (.v 2) "look" #[.m (.v 1) "holds" #[.s "here"]]) (.m (.v 1) "holds" #[.s "sign"])) #[.e (.m (.v 1) "give" #[.s "met",.i 1]),.r (.i 1)] .n,.e (.m (.v 1) "give" #[.s "met",.i 0]),.e (.k 79 #[.v 1,.s "here"]),.r (.k 80 #[.v 1,.i 1])]⟩
abbrev pB:aq:=⟨["self"],["self"],[],#[.r (.lst #[.s "seek"])]⟩
abbrev hW:aq:=⟨["self","boxes","store"],["self","boxes","store","content"],[],#[.f (.q .Eq (.m (.v 1) "holds" #[.s "left"]) (.i 0)) #[.e (.m (.v 1) "give" #[.s "met",.i 1]),.r (.i 1)] .n,.a 3 (.m (.v 2) "look" #[.m (.v 1) "holds" #[.s "here"]]),.f (.q .NotEq (.v 3) (.m (.v 2) "look" #[.m (.v 1) "holds" #[.s "there"]])) #[.e (.m (.v 1) "give" #[.s "met",.i 0]),.r (.i 1)] .n,.e (.m (.v 1) "give" #[.s "met",.i 1]),.e (.k 79 #[.v 1,.s "here"]),.e (.k 79 #[.v 1,.s "there"]),.r (.k 80 #[.v 1,.i 1])]⟩
abbrev lX:aq:=⟨["self"],["self"],[],#[.r (.lst #[.s "match"])]⟩
abbrev gO:aq:=⟨["self","boxes","store"],["self","boxes","store","left","here","there"],[],#[.a 3 (.m (.v 1) "holds" #[.s "left"]),.f (.q .Eq (.v 3) (.i 0)) #[.r (.i 1)] .n,.a 4 (.m (.v 1) "holds" #[.s "here"]),.a 5 (.m (.v 1) "holds" #[.s "there"]),.f (.q .LtE (.v 5) (.v 4)) #[.e (.k 82 #[.v 2,.v 4,.v 5]),.e (.k 78 #[.v 1,.s "here",.i 1]),.e (.k 78 #[.v 1,.s "there",.i 1])] #[.e (.k 82 #[.v 2,.bin .Sub (.bin .Add (.v 4) (.v 3)) (.i 1),.bin .Sub (.bin .Add (.v 5) (.v 3)) (.i 1)])],.r (.k 80 #[.v 1,.i 1])]⟩
abbrev l6:aq:=⟨["self"],["self"],[],#[.r (.lst #[.s "shift"])]⟩
abbrev jv:aq:=⟨["self","boxes","store"],["self","boxes","store","left","here"],[],#[.a 3 (.m (.v 1) "holds" #[.s "left"]),.f (.q .Eq (.v 3) (.i 0)) #[.r (.i 1)] .n,.f (.q .Eq (.v 3) (.i 1)) #[.r (.k 80 #[.v 1,.i 1])] .n,.a 4 (.m (.v 1) "holds" #[.s "here"]),.e (.k 83 #[.v 2,.v 4,.bin .Sub (.bin .Add (.v 4) (.v 3)) (.i 1)]),.e (.k 78 #[.v 1,.s "here",.i 1]),.r (.k 80 #[.v 1,.i 2])]⟩
abbrev pe:aq:=⟨["self"],["self"],[],#[.r (.lst #[.s "turn"])]⟩
abbrev jo:aq:=⟨["_law_script"],["_law_script","_law_cells","_law_fold","_law_cell"],[],#[.a 1 (.bf .list #[.sl (.v 0) .no (.yes (.i 63))]),.a 2 (.bf .len #[.v 1]),.for (.nm 3) (.seq (.v 1)) #[.a 2 (.bin .Mod (.bin .Add (.bin .Add (.bin .Mult (.v 2) (.i 48271)) (.bin .Mod (.v 3) (.i 2147483647))) (.i 1)) (.i 2147483629))],.r (.lst #[.v 1,.v 2,.i 0,.i 0,.i 0])]⟩
abbrev jJ:aq:=⟨["_law_hand_here","_law_many"],["_law_hand_here","_law_many","_law_rest","_law_cell","_law_one","_law_two"],[],#[.augS (.v 0) (.i 4) .Add (.i 1),.a 2 (.ix (.v 0) (.i 3)),.a 3 (.ix (.v 0) (.i 1)),.f (.q .Gt (.v 2) (.i 0)) #[.sub (.v 0) (.i 3) (.bin .FloorDiv (.v 2) (.v 1)),.r (.bin .Mod (.v 2) (.v 1))] .n,.f (.q .Lt (.ix (.v 0) (.i 2)) (.bf .len #[.ix (.v 0) (.i 0)])) #[.a 3 (.ix (.ix (.v 0) (.i 0)) (.ix (.v 0) (.i 2))),.augS (.v 0) (.i 2) .Add (.i 1),.f (.q .GtE (.v 3) (.bin .Pow (.i 10) (.i 18))) #[.sub (.v 0) (.i 3) (.bin .FloorDiv (.v 3) (.v 1)),.r (.bin .Mod (.v 3) (.v 1))] .n] .n,.a 4 (.bin .Mod (.bin .Pow (.bin .Add (.bin .Mod (.v 3) (.i 998244353)) (.bin .Mult (.i 7919) (.ix (.v 0) (.i 4)))) (.i 5)) (.i 2147483647)),.a 5 (.bin .Mod (.bin .Pow (.bin .Add (.bin .Add (.v 4) (.bin .Mult (.i 104729) (.ix (.v 0) (.i 4)))) (.ix (.v 0) (.i 1))) (.i 3)) (.i 2147483629)),.r (.bin .Mod (.bin .FloorDiv (.v 5) (.i 7)) (.v 1))]⟩
abbrev kF:aq:=⟨["_law_hand_here","_law_low","_law_high"],["_law_hand_here","_law_low","_law_high","_law_way"],[],#[.a 3 (.k 97 #[.v 0,.i 12]),.f (.q .Lt (.v 3) (.i 2)) #[.r (.bin .Sub (.bin .Sub (.v 1) (.i 1)) (.ix (.lst #[.i 0,.k 97 #[.v 0,.bin .Pow (.i 10) (.i 6)]]) (.v 3)))] .n,.f (.q .Lt (.v 3) (.i 4)) #[.r (.bin .Add (.bin .Add (.v 2) (.i 1)) (.ix (.lst #[.i 0,.k 97 #[.v 0,.bin .Pow (.i 10) (.i 6)]]) (.bin .Sub (.v 3) (.i 2))))] .n,.f (.q .Eq (.v 3) (.i 4)) #[.r (.bin .Add (.bin .Pow (.i 10) (.i 59)) (.k 97 #[.v 0,.bin .Pow (.i 10) (.i 6)]))] .n,.f (.q .Eq (.v 3) (.i 5)) #[.r (.bin .Sub (.neg (.bin .Pow (.i 10) (.i 59))) (.k 97 #[.v 0,.bin .Pow (.i 10) (.i 6)]))] .n,.r (.ix (.lst #[.non,.bl true,.bl false,.s "1",.lst #[.i 1],.tup #[.i 0],.dnew,.s "here",.s ""]) (.k 97 #[.v 0,.i 9]))]⟩
abbrev ja:aq:=⟨["_law_spec"],["_law_spec","_law_word"],[],#[.a 1 (.ix (.v 0) (.i 0)),.f (.q .Eq (.v 1) (.s "set")) #[.r (.make 13 #[.ix (.v 0) (.i 1),.ix (.v 0) (.i 2)])] .n,.f (.q .Eq (.v 1) (.s "add")) #[.r (.make 14 #[.ix (.v 0) (.i 1),.ix (.v 0) (.i 2)])] .n,.f (.q .Eq (.v 1) (.s "take")) #[.r (.make 15 #[.ix (.v 0) (.i 1),.ix (.v 0) (.i 2)])] .n,.f (.q .Eq (.v 1) (.s "read")) #[.r (.make 16 #[.ix (.v 0) (.i 1)])] .n,.f (.q .Eq (.v 1) (.s "write")) #[.r (.make 17 #[.ix (.v 0) (.i 1)])] .n,.f (.q .Eq (.v 1) (.s "hop")) #[.r (.make 21 #[.ix (.v 0) (.i 1),.ix (.v 0) (.i 2)])] .n,.r (.k 100 #[.v 1])]⟩
abbrev jk:aq:=⟨["_law_word"],["_law_word"],[],#[.f (.q .Eq (.v 0) (.s "copy")) #[.r (.uh 22)] .n,.f (.q .Eq (.v 0) (.s "fill")) #[.r (.uh 23)] .n,.f (.q .Eq (.v 0) (.s "seek")) #[.r (.uh 24)] .n,.f (.q .Eq (.v 0) (.s "match")) #[.r (.uh 25)] .n,.f (.q .Eq (.v 0) (.s "shift")) #[.r (.uh 26)] .n,.r (.uh 27)]⟩
abbrev lp:aq:=⟨["_law_leaves","_law_deed_here","_law_cell"],["_law_leaves","_law_deed_here","_law_cell"],[],#[.f (.or (.q .Lt (.v 2) (.i 0)) (.q .GtE (.v 2) (.bf .len #[.v 0]))) #[.r (.bl false)] .n,.r (.or (.q .Eq (.ix (.v 0) (.v 2)) (.s "open")) (.and (.q .Eq (.ix (.v 0) (.v 2)) (.s "look")) (.q .Eq (.v 1) (.s "look"))))]⟩
abbrev gE:aq:=⟨["_law_spec","_law_boxes"],["_law_spec","_law_boxes","_law_here","_law_there","_law_left","_law_word","_law_far"],[],#[.par [2,3,4] #[.ix (.v 1) (.s "here"),.ix (.v 1) (.s "there"),.ix (.v 1) (.s "left")],.a 5 (.ix (.v 0) (.i 0)),.f (.q .Eq (.v 5) (.s "read")) #[.r (.tup #[.lst #[.v 2],.lst .n])] .n,.f (.q .Eq (.v 5) (.s "write")) #[.r (.tup #[.lst .n,.lst #[.v 3]])] .n,.f (.or (.q .Eq (.v 4) (.i 0)) (.and (.q .Eq (.v 5) (.s "turn")) (.q .Eq (.v 4) (.i 1)))) #[.r (.tup #[.lst .n,.lst .n])] .n,.f (.q .Eq (.v 5) (.s "copy")) #[.r (.tup #[.lst #[.v 2],.lst #[.v 3]])] .n,.f (.q .Eq (.v 5) (.s "fill")) #[.r (.tup #[.lst .n,.lst #[.v 3]])] .n,.f (.q .Eq (.v 5) (.s "seek")) #[.r (.tup #[.lst #[.v 2],.lst .n])] .n,.f (.q .Eq (.v 5) (.s "match")) #[.r (.tup #[.lst #[.v 2,.v 3],.lst .n])] .n,.f (.q .Eq (.v 5) (.s "shift")) #[.a 6 (.ix (.lst #[.bin .Sub (.v 4) (.i 1),.i 0]) (.bf .int #[.q .LtE (.v 3) (.v 2)])),.r (.tup #[.lst #[.bin .Add (.v 2) (.v 6)],.lst #[.bin .Add (.v 3) (.v 6)]])] .n,.f (.q .Eq (.v 5) (.s "turn")) #[.r (.tup #[.lst #[.v 2,.bin .Sub (.bin .Add (.v 2) (.v 4)) (.i 1)],.lst #[.v 2,.bin .Sub (.bin .Add (.v 2) (.v 4)) (.i 1)]])] .n,.r (.tup #[.lst .n,.lst .n])]⟩
abbrev jf:aq:=⟨["_law_box","_law_number"],["_law_box","_law_number"],[],#[.f (.or (.q .Eq (.v 0) (.s "here")) (.q .Eq (.v 0) (.s "there"))) #[.r (.cmp2 .LtE .LtE (.neg (.bin .Pow (.i 10) (.i 9))) (.v 1) (.bin .Pow (.i 10) (.i 9)))] .n,.f (.or (.q .Eq (.v 0) (.s "left")) (.q .Eq (.v 0) (.s "sign"))) #[.r (.cmp2 .LtE .LtE (.i 0) (.v 1) (.bin .Pow (.i 10) (.i 9)))] .n,.f (.q .Eq (.v 0) (.s "way")) #[.r (.or (.q .Eq (.v 1) (.i 1)) (.q .Eq (.v 1) (.neg (.i 1))))] .n,.r (.or (.q .Eq (.v 1) (.i 0)) (.q .Eq (.v 1) (.i 1)))]⟩
abbrev cf:aq:=⟨["_law_spec","_law_boxes","_law_leaves"],["_law_spec","_law_boxes","_law_leaves","_law_looks","_law_puts_here","_law_cell"],[],#[.f (.and (.q .Eq (.ix (.v 0) (.i 0)) (.s "write")) (.not (.cmp2 .LtE .LtE (.i 0) (.ix (.v 1) (.ix (.v 0) (.i 1))) (.bin .Pow (.i 10) (.i 9))))) #[.r (.tup #[.s "fit",.ix (.v 0) (.i 1),.ix (.v 1) (.ix (.v 0) (.i 1))])] .n,.asgT [3,4] (.k 102 #[.v 0,.v 1]),.for (.nm 5) (.seq (.v 3)) #[.f (.not (.val (.k 101 #[.v 2,.s "look",.v 5]))) #[.r (.tup #[.s "look",.v 5,.i 0])] .n],.for (.nm 5) (.seq (.v 4)) #[.f (.not (.val (.k 101 #[.v 2,.s "put",.v 5]))) #[.r (.tup #[.s "put",.v 5,.i 0])] .n],.r .non]⟩
abbrev jB:aq:=⟨["_law_spec","_law_boxes","_law_cells","_law_leaves"],["_law_spec","_law_boxes","_law_cells","_law_leaves","_law_barred_here","_law_word","_law_number"],[],#[.a 4 (.k 104 #[.v 0,.v 1,.v 3]),.f (.q .IsNot (.v 4) .non) #[.r (.v 4)] .n,.a 5 (.ix (.v 0) (.i 0)),.f (.q .In (.v 5) (.tup #[.s "set",.s "add",.s "take",.s "read"])) #[.a 6 (.ix (.v 0) (.neg (.i 1))),.f (.q .Eq (.v 5) (.s "add")) #[.a 6 (.bin .Add (.ix (.v 1) (.ix (.v 0) (.i 1))) (.v 6))] .n,.f (.q .Eq (.v 5) (.s "take")) #[.a 6 (.ix (.v 1) (.ix (.v 0) (.i 2)))] .n,.f (.q .Eq (.v 5) (.s "read")) #[.a 6 (.ix (.v 2) (.ix (.v 1) (.s "here")))] .n,.f (.not (.val (.k 103 #[.ix (.v 0) (.i 1),.v 6]))) #[.r (.tup #[.s "fit",.ix (.v 0) (.i 1),.v 6])] .n,.sub (.v 1) (.ix (.v 0) (.i 1)) (.v 6),.r (.tup #[.s "on",.i 1,.i 0])] .n,.f (.q .Eq (.v 5) (.s "write")) #[.sub (.v 2) (.ix (.v 1) (.s "there")) (.ix (.v 1) (.ix (.v 0) (.i 1))),.r (.tup #[.s "on",.i 1,.i 0])] .n,.f (.q .Eq (.v 5) (.s "hop")) #[.r (.tup #[.s "on",.bin .Add (.i 1) (.bin .Mult (.ix (.v 0) (.i 1)) (.bf .int #[.or (.q .Is (.ix (.v 0) (.i 2)) .non) (.q .Eq (.ix (.v 0) (.i 2)) (.ix (.v 1) (.s "met")))])),.i 0])] .n,.r (.tup #[.s "on",.k 106 #[.v 5,.v 1,.v 2],.i 0])]⟩
abbrev gW:aq:=⟨["_law_word","_law_boxes","_law_cells"],["_law_word","_law_boxes","_law_cells","_law_here","_law_there","_law_left","_law_way","_law_size","_law_content"],[],#[.par [3,4,5] #[.ix (.v 1) (.s "here"),.ix (.v 1) (.s "there"),.ix (.v 1) (.s "left")],.a 6 (.ix (.v 1) (.s "way")),.f (.q .In (.v 0) (.tup #[.s "seek",.s "match"])) #[.r (.k 107 #[.v 0,.v 1,.v 2])] .n,.f (.q .Eq (.v 5) (.i 0)) #[.r (.i 1)] .n,.a 7 (.i 1),.f (.q .Eq (.v 0) (.s "copy")) #[.sub (.v 2) (.v 4) (.ix (.v 2) (.v 3)),.sub (.v 1) (.s "here") (.bin .Add (.v 3) (.v 6)),.sub (.v 1) (.s "there") (.bin .Add (.v 4) (.v 6))] .n,.f (.q .Eq (.v 0) (.s "fill")) #[.sub (.v 2) (.v 4) (.ix (.v 1) (.s "sign")),.sub (.v 1) (.s "there") (.bin .Add (.v 4) (.v 6))] .n,.f (.and (.q .Eq (.v 0) (.s "shift")) (.q .LtE (.v 4) (.v 3))) #[.sub (.v 2) (.v 4) (.ix (.v 2) (.v 3)),.sub (.v 1) (.s "here") (.bin .Add (.v 3) (.i 1)),.sub (.v 1) (.s "there") (.bin .Add (.v 4) (.i 1))] #[.f (.q .Eq (.v 0) (.s "shift")) #[.sub (.v 2) (.bin .Sub (.bin .Add (.v 4) (.v 5)) (.i 1)) (.ix (.v 2) (.bin .Sub (.bin .Add (.v 3) (.v 5)) (.i 1)))] .n],.f (.and (.q .Eq (.v 0) (.s "turn")) (.q .Gt (.v 5) (.i 1))) #[.a 7 (.i 2),.a 8 (.ix (.v 2) (.v 3)),.sub (.v 2) (.v 3) (.ix (.v 2) (.bin .Sub (.bin .Add (.v 3) (.v 5)) (.i 1))),.sub (.v 2) (.bin .Sub (.bin .Add (.v 3) (.v 5)) (.i 1)) (.v 8),.sub (.v 1) (.s "here") (.bin .Add (.v 3) (.i 1))] .n,.sub (.v 1) (.s "left") (.bin .Sub (.v 5) (.v 7)),.r (.bf .int #[.q .Eq (.ix (.v 1) (.s "left")) (.i 0)])]⟩
abbrev fP:aq:=⟨["_law_word","_law_boxes","_law_cells"],["_law_word","_law_boxes","_law_cells","_law_here","_law_there","_law_left","_law_way","_law_other"],[],#[.par [3,4,5] #[.ix (.v 1) (.s "here"),.ix (.v 1) (.s "there"),.ix (.v 1) (.s "left")],.a 6 (.ix (.v 1) (.s "way")),.f (.q .Eq (.v 5) (.i 0)) #[.sub (.v 1) (.s "met") (.bf .int #[.q .Eq (.v 0) (.s "match")]),.r (.i 1)] .n,.a 7 (.ix (.v 1) (.s "sign")),.f (.q .Eq (.v 0) (.s "match")) #[.a 7 (.ix (.v 2) (.v 4))] .n,.f (.q .Eq (.q .Eq (.ix (.v 2) (.v 3)) (.v 7)) (.q .Eq (.v 0) (.s "seek"))) #[.sub (.v 1) (.s "met") (.bf .int #[.q .Eq (.v 0) (.s "seek")]),.r (.i 1)] .n,.sub (.v 1) (.s "met") (.bf .int #[.q .Eq (.v 0) (.s "match")]),.sub (.v 1) (.s "here") (.bin .Add (.v 3) (.v 6)),.f (.q .Eq (.v 0) (.s "match")) #[.sub (.v 1) (.s "there") (.bin .Add (.v 4) (.v 6))] .n,.sub (.v 1) (.s "left") (.bin .Sub (.v 5) (.i 1)),.r (.bf .int #[.q .Eq (.v 5) (.i 1)])]⟩
abbrev gZ:aq:=⟨["_law_hand_here","_law_most"],["_law_hand_here","_law_most"],[],#[.r (.lc (.k 97 #[.v 1,.ix (.lst #[.i 3,.i 1000,.bin .Mult (.i 3) (.bin .Pow (.i 10) (.i 8))]) (.k 97 #[.v 1,.i 3])]) [0] (.rng1 (.bin .Add (.i 1) (.k 97 #[.v 0,.v 1]))))]⟩
abbrev lb:aq:=⟨["_law_hand_here","_law_many"],["_law_hand_here","_law_many","_law_spots","_law_left","_law_six_here"],[],#[.a 2 (.lc (.ix (.lst #[.k 97 #[.v 1,.v 2],.i 0,.bin .Sub (.v 2) (.i 1),.v 2,.neg (.i 1),.bin .Pow (.i 10) (.i 9)]) (.k 97 #[.v 1,.i 6])) [0,1] (.rng1 (.i 2))),.a 3 (.ix (.lst #[.k 97 #[.v 0,.bin .Add (.v 1) (.i 1)],.v 1,.bin .Add (.v 1) (.i 1),.bin .Pow (.i 10) (.i 9),.i 0]) (.k 97 #[.v 0,.i 5])),.a 4 (.disp ["here","there","left","way"] #[.ix (.v 2) (.i 0),.ix (.v 2) (.i 1),.v 3,.bin .Sub (.i 1) (.bin .Mult (.i 2) (.k 97 #[.v 0,.i 2]))]),.sub (.v 4) (.s "sign") (.k 97 #[.v 0,.ix (.lst #[.i 3,.bin .Mult (.i 3) (.bin .Pow (.i 10) (.i 8))]) (.k 97 #[.v 0,.i 2])]),.sub (.v 4) (.s "met") (.k 97 #[.v 0,.i 2]),.r (.v 4)]⟩
abbrev gH:aq:=⟨["_law_hand_here","_law_size"],["_law_hand_here","_law_size","_law_parts_here","_law_low","_law_k","_law_behind"],[],#[.a 2 (.lst .n),.a 3 (.ix (.lst #[.i 0,.k 97 #[.v 0,.v 1]]) (.k 97 #[.v 0,.i 2])),.for (.nm 4) (.rng1 (.bin .Add (.i 1) (.k 97 #[.v 0,.i 4]))) #[.f (.q .Lt (.v 3) (.v 1)) #[.a 5 (.bin .Add (.bin .Add (.v 3) (.i 1)) (.k 97 #[.v 0,.ix (.lst #[.bin .Sub (.v 1) (.v 3),.bf .min #[.i 9,.bin .Sub (.v 1) (.v 3)]]) (.k 97 #[.v 0,.i 2])])),.e (.lm .insert (.v 2) #[.k 97 #[.v 0,.bin .Add (.bf .len #[.v 2]) (.i 1)],.tup #[.v 3,.v 5]]),.a 3 (.bin .Add (.v 5) (.ix (.lst #[.i 0,.i 0,.i 1,.i 3]) (.k 97 #[.v 0,.i 4])))] .n],.r (.v 2)]⟩
abbrev jj:aq:=⟨["_law_cells","_law_members"],["_law_cells","_law_members","_law_some","_law_low","_law_behind","_law_specs","_law_six_here","_law_boxes"],[],#[.a 2 (.lst .n),.for (.tp [3,4,5,6]) (.seq (.v 1)) #[.a 7 (.make 11 #[.ix (.v 6) (.s "here"),.ix (.v 6) (.s "there"),.ix (.v 6) (.s "left"),.ix (.v 6) (.s "way"),.ix (.v 6) (.s "sign"),.ix (.v 6) (.s "met")]),.e (.lm .append (.v 2) #[.tup #[.v 3,.v 4,.lc (.k 99 #[.v 0]) [] (.seq (.v 5)),.v 7]])],.r (.make 20 #[.bf .list #[.v 0],.v 2])]⟩
abbrev fW:aq:=⟨["_law_cells","_law_members"],["_law_cells","_law_members","_law_worlds_here","_law_low","_law_behind","_law_specs","_law_six_here"],[],#[.a 2 (.lst .n),.for (.tp [3,4,5,6]) (.seq (.v 1)) #[.e (.lm .append (.v 2) #[.lst #[.i 0,.bf .dict #[.v 6],.sl (.v 0) (.yes (.v 3)) (.yes (.v 4)),.bin .Mult (.lst #[.s "open"]) (.bin .Sub (.v 4) (.v 3))]])],.r (.v 2)]⟩
abbrev jx:aq:=⟨["_law_specs","_law_world"],["_law_specs","_law_world","_law_told"],[],#[.f (.q .Eq (.ix (.v 1) (.i 0)) (.bf .len #[.v 0])) #[.r (.s "end")] .n,.a 2 (.k 105 #[.ix (.v 0) (.ix (.v 1) (.i 0)),.ix (.v 1) (.i 1),.ix (.v 1) (.i 2),.ix (.v 1) (.i 3)]),.f (.q .NotEq (.ix (.v 2) (.i 0)) (.s "on")) #[.r (.s "stop")] .n,.sub (.v 1) (.i 0) (.bf .min #[.bf .len #[.v 0],.bin .Add (.ix (.v 1) (.i 0)) (.ix (.v 2) (.i 1))]),.r (.s "on")]⟩
abbrev ic:aq:=⟨["_law_crew_here","_law_members","_law_worlds_here","_law_low","_law_behind","_law_word"],["_law_crew_here","_law_members","_law_worlds_here","_law_low","_law_behind","_law_word","_law_k","_law_cell"],[],#[.e (.m (.v 0) "leave" #[.v 3,.v 4,.v 5]),.for (.nm 6) (.rng1 (.bf .len #[.v 1])) #[.for (.nm 7) (.rng2 (.bf .max #[.v 3,.ix (.ix (.v 1) (.v 6)) (.i 0)]) (.bf .min #[.v 4,.ix (.ix (.v 1) (.v 6)) (.i 1)])) #[.sub (.ix (.ix (.v 2) (.v 6)) (.i 3)) (.bin .Sub (.v 7) (.ix (.ix (.v 1) (.v 6)) (.i 0))) (.v 5)]]]⟩
abbrev jA:aq:=⟨["_law_hand_here","_law_size"],["_law_hand_here","_law_size","_law_specs","_law_k"],[],#[.a 2 (.lst .n),.for (.nm 3) (.rng1 (.bin .Add (.i 1) (.k 97 #[.v 0,.i 5]))) #[.e (.lm .append (.v 2) #[.tup #[.s "set",.ix (.lst #[.s "left",.s "here",.s "there"]) (.k 97 #[.v 0,.i 3]),.k 97 #[.v 0,.bin .Add (.v 1) (.i 1)]]]),.e (.lm .append (.v 2) #[.ix (.lst #[.tup #[.s "copy"],.tup #[.s "fill"],.tup #[.s "shift"],.tup #[.s "turn"],.tup #[.s "write",.s "sign"],.tup #[.s "copy"]]) (.k 97 #[.v 0,.i 6])])],.r (.v 2)]⟩
abbrev e9:aq:=⟨["_law_crew_here","_law_low","_law_behind","_law_word"],["_law_crew_here","_law_low","_law_behind","_law_word","e"],[],#[.tryx #[.e (.m (.v 0) "leave" #[.v 1,.v 2,.v 3])] (.c 2 4 #[.f (.or (.q .NotEq (.isi (.fld (.v 4) "low") (.ty "bool")) (.isi (.v 1) (.ty "bool"))) (.q .NotEq (.isi (.fld (.v 4) "behind") (.ty "bool")) (.isi (.v 2) (.ty "bool")))) #[.r (.bl false)] .n,.r (.and (.q .Eq (.fld (.v 4) "low") (.v 1)) (.and (.q .Eq (.fld (.v 4) "behind") (.v 2)) (.q .Eq (.fld (.v 4) "word") (.v 3))))] .n),.r (.bl false)]⟩
abbrev d4:aq:=⟨["_law_hand_here","_law_size"],["_law_hand_here","_law_size","_law_low","_law_wrong"],[],#[.a 2 (.k 97 #[.v 0,.bin .Add (.v 1) (.i 1)]),.a 3 (.lst #[.tup #[.v 2,.bin .Add (.v 1) (.i 1),.s "open"],.tup #[.v 2,.v 2,.s "Open"],.tup #[.bin .Add (.v 2) (.i 1),.v 2,.s "shut"],.tup #[.neg (.i 1),.v 2,.s "look"],.tup #[.i 0,.non,.s "shut"]]),.a 3 (.bin .Add (.v 3) (.lst #[.tup #[.v 2,.v 1,.non],.tup #[.i 0,.s "1",.s "open"],.tup #[.i 0,.bl true,.s "look"],.tup #[.v 2,.v 1,.s "opens"]])),.r (.ix (.bin .Add (.v 3) (.lst #[.tup #[.k 98 #[.v 0,.i 0,.v 1],.v 1,.s "open"]])) (.k 97 #[.v 0,.i 10]))]⟩
abbrev lI:aq:=⟨["_law_cells","_law_members","_law_worlds_here"],["_law_cells","_law_members","_law_worlds_here","_law_floor_here","_law_k","_law_place"],[],#[.a 3 (.bf .list #[.v 0]),.for (.nm 4) (.rng1 (.bf .len #[.v 1])) #[.for (.nm 5) (.rng1 (.bf .len #[.ix (.ix (.v 2) (.v 4)) (.i 2)])) #[.sub (.v 3) (.bin .Add (.ix (.ix (.v 1) (.v 4)) (.i 0)) (.v 5)) (.ix (.ix (.ix (.v 2) (.v 4)) (.i 2)) (.v 5))]],.r (.v 3)]⟩
abbrev kA:aq:=⟨["_law_script"],["_law_script","_law_hand_here","_law_cells","_law_members","_law_low","_law_behind","_law_crew_here","_law_worlds_here","_law_turn","_law_k","_law_wide","_law_word","_law_found"],[],#[.a 1 (.k 96 #[.v 0]),.a 2 (.k 108 #[.v 1,.i 60]),.a 3 (.lst .n),.for (.tp [4,5]) (.seq (.k 110 #[.v 1,.bf .len #[.v 2]])) #[.e (.lm .append (.v 3) #[.tup #[.v 4,.v 5,.k 115 #[.v 1,.bin .Sub (.v 5) (.v 4)],.k 109 #[.v 1,.bin .Sub (.v 5) (.v 4)]]])],.a 6 (.k 111 #[.v 2,.v 3]),.a 7 (.k 112 #[.v 2,.v 3]),.for (.nm 8) (.rng1 (.i 30)) #[.a 9 (.k 97 #[.v 1,.bf .len #[.v 3]]),.f (.q .Eq (.k 97 #[.v 1,.i 5]) (.i 0)) #[.a 10 (.bin .Sub (.ix (.ix (.v 3) (.v 9)) (.i 1)) (.ix (.ix (.v 3) (.v 9)) (.i 0))),.a 4 (.bf .max #[.i 0,.bf .min #[.bin .Sub (.bf .len #[.v 2]) (.i 1),.bin .Add (.bin .Sub (.ix (.ix (.v 3) (.v 9)) (.i 0)) (.i 2)) (.k 97 #[.v 1,.bin .Add (.v 10) (.i 3)])]]),.a 5 (.bf .min #[.bf .len #[.v 2],.bin .Add (.bin .Add (.v 4) (.i 1)) (.k 97 #[.v 1,.ix (.lst #[.i 6,.bin .Add (.v 10) (.i 3)]) (.k 97 #[.v 1,.i 2])])]),.a 11 (.ix (.lst #[.s "look",.s "shut",.s "open",.s "open"]) (.k 97 #[.v 1,.i 4])),.e (.k 114 #[.v 6,.v 3,.v 7,.v 4,.v 5,.v 11])] .n,.f (.q .Eq (.k 97 #[.v 1,.i 6]) (.i 0)) #[.asgT [4,5,11] (.k 117 #[.v 1,.bf .len #[.v 2]]),.f (.not (.val (.k 116 #[.v 6,.v 4,.v 5,.v 11]))) #[.r (.bl false)] .n] .n,.f (.q .NotEq (.m (.v 6) "step" #[.v 9]) (.k 113 #[.ix (.ix (.v 3) (.v 9)) (.i 2),.ix (.v 7) (.v 9)])) #[.r (.bl false)] .n,.a 12 (.m (.v 6) "floor" .n),.f (.q .NotEq (.v 12) (.k 118 #[.v 2,.v 3,.v 7])) #[.r (.bl false)] .n,.sub (.v 12) (.i 0) (.i 7),.e (.lm .append (.v 12) #[.i 1])],.r (.q .Eq (.m (.v 6) "floor" .n) (.k 118 #[.v 2,.v 3,.v 7]))]⟩
abbrev tab:Tab where
  fns:=(cI::cP::d7::dg::iW::gM::gU::gm::gI::fJ::kU::gT::kM::jH::yd::dB::fT::dF::gL::ff::jI::eC::fh::lN::qA::fg::lC::qi::dZ::jr::pd::dP::ji::nG::dm::g9::lV::hX::fO::uf::cQ::dW::c4::fj::d6::dY::kQ::iS::fS::kS::jl::du::iH::gz::fQ::jK::iw::jE::fu::kx::uP::jb::fX::mF::lz::hE::dU::cu::cW::jn::pH::gA::dM::mG::uQ::eO::kJ::pP::nP::eJ::ju::m9::x8::lB::i9::oh::jm::nQ::jC::pB::hW::lX::gO::l6::jv::pe::jo::jJ::kF::ja::jk::lp::gE::jf::cf::jB::gW::fP::gZ::lb::gH::jj::fW::jx::ic::jA::e9::d4::lI::kA::[])
  gfn:=(("is_whole",10)::("is_content",11)::("is_box",12)::("is_number",13)::("fits",14)::("check_box",20)::("check_number",21)::("check_rows",37)::("check_place",38)::("tried",39)::("check_cells",48)::("is_leave",49)::("is_within",50)::("shared",59)::("apart",60)::("is_member",61)::("are_members",62)::("is_part",63)::("parts_of",64)::("machine_on",65)::("is_many",73)::("is_on",74)::("more",78)::("go_by_way",79)::("less_left",80)::("ask_put",81)::("haul",82)::("exchange",83)::("_law_hand",96)::("_law_draw",97)::("_law_odd",98)::("_law_deed",99)::("_law_long",100)::("_law_let",101)::("_law_reach",102)::("_law_fits",103)::("_law_barred",104)::("_law_step",105)::("_law_moved",106)::("_law_looked",107)::("_law_floor",108)::("_law_six",109)::("_law_parts",110)::("_law_crew",111)::("_law_worlds",112)::("_law_goes",113)::("_law_given",114)::("_law_puts",115)::("_law_refused",116)::("_law_no_leave",117)::("_law_due",118)::("law",119)::[])
  gcl:=[("HaulError",0),("NoStore",1),("NoLeave",2),("Stop",3),("NoFit",4),("NoBox",5),("NoDeed",6),("NoRows",7),("NoPlace",8),("NoPart",9),("NoMember",10),("Boxes",11),("Deed",12),("Set",13),("Add",14),("Take",15),("Read",16),("Write",17),("Machine",18),("Store",19),("Crew",20),("Hop",21),("Copy",22),("Fill",23),("Seek",24),("Match",25),("Shift",26),("Turn",27)]
  gbl:=["all","bool","dict","enumerate","int","isinstance","len","list","max","min","range","str","tuple","zip"]
  gbi:=["HaulError"]
  na:=((1,"at")::(2,"behind")::(2,"low")::(2,"word")::(3,"cell")::(3,"deed")::(4,"box")::(4,"number")::(5,"box")::(6,"word")::(7,"at")::(8,"at")::(9,"at")::(10,"k")::(11,"numbers")::(13,"box")::(13,"number")::(14,"box")::(14,"number")::(15,"box")::(15,"other")::(16,"box")::(17,"box")::(18,"at")::(18,"boxes")::(18,"deeds")::(18,"store")::(19,"contents")::(19,"permits")::(20,"ground")::(20,"machines")::(20,"parts")::(21,"many")::(21,"on")::[])
  me:=(((11,"copied"),19)::((11,"give"),17)::((11,"holds"),16)::((11,"told"),18)::((13,"step"),23)::((13,"words"),24)::((14,"step"),26)::((14,"words"),27)::((15,"step"),29)::((15,"words"),30)::((16,"step"),32)::((16,"words"),33)::((17,"step"),35)::((17,"words"),36)::((18,"copied"),47)::((18,"ended"),41)::((18,"leave"),45)::((18,"rows"),46)::((18,"state"),44)::((18,"step"),43)::((18,"step_on"),42)::((19,"copied"),58)::((19,"leave"),54)::((19,"look"),56)::((19,"may"),55)::((19,"put"),57)::((19,"size"),52)::((19,"told"),53)::((20,"check_member"),67)::((20,"floor"),71)::((20,"leave"),72)::((20,"machine_of"),68)::((20,"state"),70)::((20,"step"),69)::((21,"step"),76)::((21,"words"),77)::((22,"step"),84)::((22,"words"),85)::((23,"step"),86)::((23,"words"),87)::((24,"step"),88)::((24,"words"),89)::((25,"step"),90)::((25,"words"),91)::((26,"step"),92)::((26,"words"),93)::((27,"step"),94)::((27,"words"),95)::[])
  ini:=[(1,0),(2,1),(3,2),(4,3),(5,4),(6,5),(7,6),(8,7),(9,8),(10,9),(11,15),(13,22),(14,25),(15,28),(16,31),(17,34),(18,40),(19,51),(20,66),(21,75)]
  ini0:=[]
  inip:=[22,23,24,25,26,27]
  oc:=[11,12,13,14,15,16,17,18,19,20,21,22,23,24,25,26,27]
  xc:=[0,1,2,3,4,5,6,7,8,9,10]
  sub:=(((0,4),false)::((0,2),false)::((0,3),false)::((1,4),false)::((1,2),false)::((1,3),false)::((2,4),false)::((2,2),true)::((2,3),false)::((3,4),false)::((3,2),false)::((3,3),true)::((4,4),true)::((4,2),false)::((4,3),false)::((5,4),false)::((5,2),false)::((5,3),false)::((6,4),false)::((6,2),false)::((6,3),false)::((7,4),false)::((7,2),false)::((7,3),false)::((8,4),false)::((8,2),false)::((8,3),false)::((9,4),false)::((9,2),false)::((9,3),false)::((10,4),false)::((10,2),false)::((10,3),false)::((11,12),false)::((12,12),true)::((13,12),true)::((14,12),true)::((15,12),true)::((16,12),true)::((17,12),true)::((18,12),false)::((19,12),false)::((20,12),false)::((21,12),true)::((22,12),true)::((23,12),true)::((24,12),true)::((25,12),true)::((26,12),true)::((27,12),true)::[])
  subT:=[]
  subB:=((("NoneType","bool"),false)::(("NoneType","int"),false)::(("NoneType","list"),false)::(("NoneType","str"),false)::(("NoneType","tuple"),false)::(("bool","bool"),true)::(("bool","int"),true)::(("bool","list"),false)::(("bool","str"),false)::(("bool","tuple"),false)::(("int","bool"),false)::(("int","int"),true)::(("int","list"),false)::(("int","str"),false)::(("int","tuple"),false)::(("str","bool"),false)::(("str","int"),false)::(("str","list"),false)::(("str","str"),true)::(("str","tuple"),false)::(("list","bool"),false)::(("list","int"),false)::(("list","list"),true)::(("list","str"),false)::(("list","tuple"),false)::(("tuple","bool"),false)::(("tuple","int"),false)::(("tuple","list"),false)::(("tuple","str"),false)::(("tuple","tuple"),true)::(("dict","bool"),false)::(("dict","int"),false)::(("dict","list"),false)::(("dict","str"),false)::(("dict","tuple"),false)::[])
  subO:=[]
/-- what the proofs ask of the addresses -/
structure Ro (K:W.Frag) (R:Rt):Prop where
  hK:R.K=K
  g_BOUND:R.gl "BOUND"=some (.int 1000000000)
  g_MOST_ROWS:R.gl "MOST_ROWS"=some (.int 24)
  g_MOST_CELLS:R.gl "MOST_CELLS"=some (.int 60)
  g_MOST_MEMBERS:R.gl "MOST_MEMBERS"=some (.int 4)
  g_THINGS_OF_A_MEMBER:R.gl "THINGS_OF_A_MEMBER"=some (.int 4)
  g_MOST_HOPPED:R.gl "MOST_HOPPED"=some (.int 24)
  g_NAMES:∃ a,R.gl "NAMES"=some (.ref a)/\∀ H,bc K H a [.str "here",.str "there",.str "left",.str "way",.str "sign",.str "met"]
  g_LEAVES:∃ a,R.gl "LEAVES"=some (.ref a)/\∀ H,bc K H a [.str "open",.str "look",.str "shut"]
end My
set_option Elab.async false
set_option maxHeartbeats 8000000
namespace My
open PySem L2 L3
open L2.V renaming ref→wf,int→wl,str→wn,non→wp
open L2.HO renaming lst→wr,tup→wv,ins→ww
local macro_rules|`(tactic|delta $x:ident)=>`(tactic|refine wc (d:=$x) nofun rfl rfl ?_)
variable {h a C d dx l:Addr}{m c i at_:Int}{ns cs':List Int}{n:Nat}{v:V}{t:String}{xs ds ss:List V}{α:Type}{ws:List Str}{A:av}{P:V->Prop}{sp:Sp}
section
variable {K:W.Frag}{R:Rt}{k:Nat}{H:Hp}{Q:VK}{E:XK}{O Γ' Δ:List av}
local macro_rules| `(tactic|walk_at "w")=>`(tactic|conv=>whnf)
local macro_rules| `(tactic|left)=>`(tactic|walk_at "w")
local macro_rules| `(tactic|symm)=>`(tactic|((with_reducible (repeat(first|exact ag.e|apply ag.t)));done))
local macro_rules| `(tactic|ac_rfl)=>`(tactic|((with_reducible (repeat(first|exact aO.e|apply aO.t)));done))
local macro_rules| `(tactic|ac_nf)=>`(tactic|first|(with_reducible exact Sub.refl)|(refine' Sub.cons ?h ?r;(case h=>symm);(case r=>ac_nf))|(with_reducible exact Sub.nil)|(with_reducible apply Sub.drop;(ac_nf)))
local macro_rules| `(tactic|walk_at "sp")=>`(tactic|(refine Sep.sub ?_ (by with_reducible assumption);(ac_nf)))
local macro_rules| `(tactic|grind)=>`(tactic|first|exact Sep.get (by with_reducible assumption) (by symm)|exact Sep.eX (by with_reducible assumption) (by symm))
local macro_rules| `(tactic|walk_at "ar")=>`(tactic|first|lia|omega|decide|exact pc rfl|(unfold qz;omega)|(unfold BX;omega)|(unfold BX;decide)|(unfold qz;decide)|(simp only[ce,length_set,List.length_replicate];omega))
local macro_rules| `(tactic|walk_at "ls")=>`(tactic|first|(conv=>lhs;simp only[List.set_cons_succ,List.set_cons_zero,Int.reduceToNat])|rfl)
local macro_rules| `(tactic|walk_at "pf")=>`(tactic|first|(conv=>lhs;simp (decide:=true) only [cS,if_true,if_false])|rfl)
local macro_rules| `(tactic|walk_at "st")=>`(tactic|first
  |(with_reducible refine And.intro rfl ?_)
  |(with_reducible refine aM rfl ?_)
  |(with_reducible refine au rfl ?_)
  |(with_reducible refine Gw ?_)
  |((with_reducible refine' aJ ?e ?v ?_);(case e=>grind);(case v=>exact rfl))
  |((with_reducible refine' bP ?e ?v ?_);(case e=>grind);(case v=>exact rfl))
  |((with_reducible refine' HB ?e ?i ?v ?_);(case e=>grind);(case i=>omega);(case v=>exact rfl))
  |(with_reducible refine E3 rfl ?_)
  |(with_reducible refine Gr rfl ?_)
  |((with_reducible refine' ip ?e ?_);(case e=>grind))
  |((with_reducible refine' uH ?e ?_);(case e=>grind))
  |((with_reducible refine' dA ?s ?r ?j ?x (λH hs=>?_));(case s=>with_reducible assumption);(case r=>ac_rfl);(case j=>exact rfl);(case x=>walk_at "ls"))
  |((with_reducible refine' Ej ?s ?l (λp H hs=>?_));(case s=>with_reducible assumption);(case l=>exact pc rfl))
  |((with_reducible refine' Fu ?s ?l (λp H hs=>?_));(case s=>with_reducible assumption);(case l=>exact pc rfl))
  |((with_reducible refine' EJ ?s (λp H hs=>?_));(case s=>with_reducible assumption))
  |((with_reducible refine' Io ?e ?_);(case e=>grind))
  |((with_reducible refine' C8 ?e ?_);(case e=>grind))
  |((with_reducible refine' ub ?s ?e ?f ?l (λp H hs=>?_));(case s=>with_reducible assumption);(case e=>grind);(case f=>grind);(case l=>walk_at "ar"))
  |((with_reducible refine' HK ?s ?e ?f ?g ?l (λp H hs=>?_));(case s=>with_reducible assumption);(case e=>grind);(case f=>walk_at "ar");(case g=>walk_at "ar");(case l=>walk_at "ar"))
  |((with_reducible refine' Kq ?s ?r ?o ?n ?l ?x (λH hs=>?_));(case s=>with_reducible assumption);(case r=>ac_rfl);(case o=>exact rfl);(case n=>exact rfl);(case l=>walk_at "ar");(case x=>walk_at "pf"))
  |((with_reducible refine' cF ?e ?o ?n ?l ?_);(case e=>grind);(case o=>exact rfl);(case n=>exact rfl);(case l=>exact rfl))
  |((with_reducible refine' IL ?e ?o ?n ?l ?_);(case e=>grind);(case o=>exact rfl);(case n=>exact rfl);(case l=>exact rfl))
  |((with_reducible refine' isi_x ?e ?o ?b ?_);(case e=>grind);(case o=>exact rfl);(case b=>exact rfl))
  |((with_reducible refine' isi_xt ?e ?o ?b ?_);(case e=>grind);(case o=>exact rfl);(case b=>exact rfl))
  |((with_reducible refine' cX ?t ?b ?_);(case t=>exact rfl);(case b=>exact rfl))
  |((with_reducible refine' kg ?a ?b ?_);(case a=>exact rfl);(case b=>exact rfl))
  |((with_reducible refine' ke ?a ?b ?_);(case a=>exact rfl);(case b=>exact rfl))
  |((with_reducible refine' uR ?s ?e (λp H hs=>?_));(case s=>with_reducible assumption);(case e=>grind))
  |((with_reducible refine' GG ?s ?e (λp H hs=>?_));(case s=>with_reducible assumption);(case e=>grind))
  |(refine And.intro (by walk_at "ar") ?_))
local macro_rules| `(tactic|walk_at "go")=>`(tactic|(walk_at "w";repeat(walk_at "st";walk_at "w")))
local macro_rules| `(tactic|right)=>`(tactic|walk_at "go")
abbrev hand (h:Addr)(m:Int):av:=ex λx:Addr×List Int×Int×Int×Int×Int=>pK (pt h (wr [wf x.1,wl x.2.2.1,wl x.2.2.2.1,wl x.2.2.2.2.1,wl x.2.2.2.2.2])) (pK (pt x.1 (wr (x.2.1.map wl)))
 (pu (x.2.1.length<=63/\0<=x.2.2.1/\x.2.2.1<2147483629/\0<=x.2.2.2.1/\0<=x.2.2.2.2.1/\0<=x.2.2.2.2.2/\x.2.2.2.2.2<=m)))
def zp (s:Sep (hand h m::O) H):∃ (c:Addr) (ns:List Int) (fo i r n:Int),Sep (pt h (wr [wf c,wl fo,wl i,wl r,wl n])::pt c (wr (ns.map wl))::O) H/\ns.length<=63/\0<=fo/\fo<2147483629/\0<=i/\0<=r/\0<=n/\n<=m:=by
 obtain⟨⟨c,ns,fo,i,r,n⟩,s⟩:=Sep.G3.mp s;have s2:=Sep.star.mp ((Sep.star.mp s).pull .k1);have p:=(s2.pull .k1).pure;exact⟨c,ns,fo,i,r,n,((s2.pull .k1).drop).pull .k1,p⟩
def iM {c:Addr}{fo r n:Int}(s:Sep (pt h (wr [wf c,wl fo,wl i,wl r,wl n])::pt c (wr (ns.map wl))::O) H)(p:ns.length<=63/\0<=fo/\fo<2147483629/\0<=i/\0<=r/\0<=n/\n<=m):Sep (hand h m::O) H:=by
 refine Sep.G3.mpr ⟨⟨c,ns,fo,i,r,n⟩,Sep.star.mpr ?_⟩;exact(Sep.star.mpr (((s.pull .k1).pull .e |> λs=>(Sep.tR p s).pull .k1))).pull .k1
def Ju:(10:Int) ^ Int.toNat 18=1000000000000000000:=by decide
def tQ {n:Int}(hk:1<=k)(s:Sep (hand h m::O) H)(hm:m<=1099511627776)(hn0:0<n)(hn1:n<1073741824)
  (q:∀ (r:Int) (H':Hp),0<=r->r<n->Sep (hand h (m+1)::O) H'->Q (wl r) H'):ae tab R k 97 [wf h,wl n] H Q E:=by
 obtain⟨c,ns,fo,i,r,j,hs,h63,f0,f1,i0,r0,k0,k1⟩:=zp s;clear s;have nn:n≠0:=by omega
 delta jJ;right;refine aD (λhr=>?_) (λhr=>?_)
 .right;rename_i H1 hs1 H2 hs2;exact q _ _ (Int.emod_nonneg _ nn) (Int.emod_lt_of_pos _ hn0) (iM hs2 ⟨h63,f0,f1,i0,Int.ediv_nonneg r0 nofun,by omega,by omega⟩)
 right;refine aD (λhc=>?_) (λhc=>?_)
 .right;obtain⟨z,hz⟩:∃ z,nZ (ns.map wl) i=some (wl z):=Ac i0 (by rw[ce]at hc;exact hc);refine aJ (by grind) hz ?_;right;refine aD (λhz18=>?_) (λhz18=>?_)
  .rw[Ju]at hz18;right;rename_i H1 hs1 H2 hs2 H3 hs3;exact q _ _ (Int.emod_nonneg _ nn) (Int.emod_lt_of_pos _ hn0) (iM hs3 ⟨h63,f0,f1,by omega,Int.ediv_nonneg nofun nofun,by omega,by omega⟩)
  .right;rename_i H1 hs1 H2 hs2;exact q _ _ (Int.emod_nonneg _ nn) (Int.emod_lt_of_pos _ hn0) (iM hs2 ⟨h63,f0,f1,by omega,r0,by omega,by omega⟩)
 .right;rename_i H1 hs1;exact q _ _ (Int.emod_nonneg _ nn) (Int.emod_lt_of_pos _ hn0) (iM hs1 ⟨h63,f0,f1,by omega,r0,by omega,by omega⟩)
def Ep (hk:1<=k)(s:Sep O H)(hS:aU R.K H a (ns.map wl))(h63:ns.length<=63)(q:∀ h H',Sep (hand h 0::O) H'->Q (wf h) H'):ae tab R k 96 [wf a] H Q E:=by
 delta jo;right;refine KH s hS (λp H1 hs1=>?_);rw[IS ns h63]at hs1;right;rename_i c H2 hs2;refine dH (xs:=ns.map wl) (λj U H=>∃ (fo:Int) (v:Option V),U=[some (wf a),some (wf c),some (wl fo),v]/\0<=fo/\fo<2147483629/\Sep (pt c (wr (ns.map wl))::pt p (wr (ns.map wl))::O) H) ?_ ?_ ?_ ?_
 .exact⟨_,none,rfl,by rw[ce];omega,by rw[ce];omega,hs2⟩
 .rintro j U H ⟨fo,v,rfl,h0,h2,hs⟩;exact aU.of hs.at
 .rintro j x U H hx ⟨fo,v,rfl,h0,h2,hs⟩;obtain⟨z,rfl⟩:=sQ hx;right;exact⟨_,_,rfl,by omega,by omega,hs⟩
 .rintro U H ⟨fo,v,rfl,h0,h2,hs⟩;right;rename_i l H3 hs3;exact q l _ (iM ((hs3.pull .k2).drop) ⟨h63,h0,h2,by omega,by omega,by omega,by omega⟩)
def ax {n:Int}(s:Sep (hand h m::O) H)(e:m<=n):Sep (hand h n::O) H:=by
 obtain⟨c,ns,fo,i,r,j,hs,h63,f0,f1,i0,r0,k0,k1⟩:=zp s;exact iM hs ⟨h63,f0,f1,i0,r0,k0,by omega⟩
inductive Kd (H:Hp):V->String->Prop where
 |non:Kd H wp "NoneType"
 |bl (b:Bool):Kd H (.bl b) "bool"
 |int (i:Int):Kd H (wl i) "int"
 |str (x:Str):Kd H (wn x) "str"
 |lst {a:Addr}{xs:List V}(e:H a=some (wr xs)):Kd H (wf a) "list"
 |tup {a:Addr}{xs:List V}(e:H a=some (wv xs)):Kd H (wf a) "tuple"
 |dct {a:Addr}{kvs:List (Key×V)}(e:H a=some (.dK kvs)):Kd H (wf a) "dict"
def dC (h:tyName v H=some t):Kd H v t:=by
 unfold tyName at h
 split at h
 .cases h;exact .non
 .cases h;exact .bl _
 .cases h;exact .int _
 .cases h;exact .str _
 .split at h
  .rename_i e;cases h;exact .lst e
  .rename_i e;cases h;exact .tup e
  .rename_i e;cases h;exact .dct e
  .cases h
 .cases h
abbrev E5:V->Bool
 | wl _=>true
 |_=>false
abbrev fM:V->Bool
 | wl i=>decide (0<=i)&&decide (i<=1000000000)
 |_=>false
def aK (hk:1<=k)(ht:tyName v H=some t)(q:Q (.bl (E5 v)) H):ae tab R k 10 [v] H Q E:=by
 delta kU;right;cases dC ht
 all_goals
  refine cX ht rfl ?_;right
  first
   |exact q
   |(refine cX ht rfl ?_;right;exact q)
def cx (ro:Ro K R)(hk:2<=k)(ht:tyName v H=some t)(q:Q (.bl (fM v)) H):ae tab R k 11 [v] H Q E:=by
 delta gT;right;refine aK nofun ht ?_;cases dC ht
 case int i=>
  right;refine aD (λh0=>?_) (λh0=>?_)
  .left;simp only[ro.g_BOUND];right;have e:fM (wl i)=decide (i<=1000000000):=by simp[fM,h0]
   rw[e]at q;exact q
  .right;have e:fM (wl i)=false:=by simp[fM,h0]
   rw[e]at q;exact q
 all_goals
  right;exact q
abbrev bad (xs:List V):Option Int:=if xs.length<1\/60<xs.length then some (-1) else(xs.findIdx? λx=>!fM x).map λn=>(n:Int)
def Eu (h:¬ (1<=xs.length/\xs.length<=60)):bad xs=some (-1):=by
 unfold bad;rw[if_pos nofun]
def Ey {j:Nat}{x:V}(h:1<=xs.length/\xs.length<=60)(hx:xs[j]? =some x)(hc:fM x=false)(hb:∀ i y,i<j->xs[i]? =some y->fM y=true):bad xs=some j:=by
 unfold bad;rw[if_neg nofun];have:xs.findIdx? (λx=>!fM x)=some j:=by
  rw[List.findIdx?_eq_some_iff_getElem];obtain⟨hj,e⟩:=tz.mp hx;refine⟨hj,by rw[e,hc];rfl,λi hi=>?_⟩;rw[hb i xs[i] hi (li _)]
  decide
 rw[this]
 rfl
def qU (h:1<=xs.length/\xs.length<=60)(hb:∀ (i:Nat) y,xs[i]? =some y->fM y=true):bad xs=none:=by
 unfold bad;rw[if_neg nofun];have:xs.findIdx? (λx=>!fM x)=none:=by
  rw[List.findIdx?_eq_none_iff];intro x hx;obtain⟨i,hi⟩:=List.mem_iff_getElem?.mp hx;rw[hb i x hi]
  rfl
 rw[this]
 rfl
def CA (h:bad xs=none):1<=xs.length/\xs.length<=60:=by
 unfold bad at h
 split at h
 .cases h
 .omega
def t4 {x:V}:(sK (Int.toNat (n:Int)) [x]).flatten=sK n x:=by
 rw[sn]
 induction n with
 |zero=>rfl
 |succ n ih=>rw[replicate_succ,flatten_cons,ih];rfl
abbrev j9 (C:Addr)(fs:List (Str×V))(x:Addr)(fr:Bool):av:=ex λd:Addr=>pK (pt x (.exc C (some d) fs fr)) (pt d (.own x))
def jD {x:Addr}{fs:List (Str×V)}{fr:Bool}(s:Sep (pt x (.exc C (some d) fs fr)::pt d (.own x)::O) H):Sep (j9 C fs x fr::O) H:=Sep.G3.mpr ⟨d,Sep.star.mpr s⟩
def yQ {x:Addr}{fs:List (Str×V)}{fr:Bool}(s:Sep (j9 C fs x fr::O) H):∃ d,Sep (pt x (.exc C (some d) fs fr)::pt d (.own x)::O) H:=let⟨d,s⟩:=Sep.G3.mp s;⟨d,Sep.star.mp s⟩
def eK {x:Addr}(hk:1<=k)(s:Sep (pt x (.exc (R.cad 1) none [] true)::O) H)(q:∀ d H',Sep (pt x (.exc (R.cad 1) (some d) [("at",v)] true)::pt d (.own x)::O) H'->Q wp H'):ae tab R k 0 [wf x,v] H Q E:=by
 delta cI;right;refine⟨_,1,_,_,_,_,rfl,by grind,rfl,?_⟩;right;refine uk s rfl rfl (λd H hs=>?_);right;exact q d H hs
def BM (ro:Ro K R)(hk:3<=k)(s:Sep (pt a (wr xs)::tys xs::O) H)(q0:bad xs=none->∀ H',Sep (pt a (wr xs)::tys xs::O) H'->Q wp H')
  (q1:∀ at',bad xs=some at'->∀ x H',Sep (j9 (R.cad 1) [("at",wl at')] x false::pt a (wr xs)::tys xs::O) H'->E x H'):ae tab R k 48 [wf a] H Q E:=by
 delta fS;right;refine cX (t:="list") (Ck s.at) rfl ?_;right
 by_cases hl:1<=xs.length/\xs.length<=60
 .refine aM (decide_eq_true nofun) ?_;left;simp only[ro.g_MOST_CELLS];right;refine aM (c:=decide ((xs.length:Int)<=60)) (decide_eq_true nofun) ?_;right;refine kb (xs:=xs) (λj U H=>∃ y z,U=[some (wf a),y,z]/\(∀ i w,i<j->xs[i]? =some w->fM w=true)/\Sep (pt a (wr xs)::tys xs::O) H) ?_ ?_ ?_ ?_
  .exact⟨none,none,rfl,λi w h=>absurd h nofun,s⟩
  .rintro j U H ⟨y,z,rfl,_,hs⟩;exact hs.at
  .rintro j x T U H hx ⟨y,z,rfl,hb,hs⟩ hT;have hs1:=hs.iG (xs:=[wl j,x]) hT;left;refine⟨T,_,rfl,.inl (bc.of hs1.atT),rfl,?_⟩;right;obtain⟨t,ht⟩:=(hs1.pull .k2).Jr x (cr hx);refine cx ro nofun ht ?_;right;refine bT (λhc=>?_) (λhc=>?_)
   .right;refine⟨_,_,rfl,λi w hi hw=>?_,hs1.drop⟩
    by_cases e:i=j
    .subst e;rw[hx]at hw;cases hw;exact hc
    .exact hb i w nofun hw
   .right;intro p hp;refine eK nofun (hs1.drop.new hp) (λd H hs=>?_);right;refine eD hs (by ac_rfl) rfl (λH hs=>?_);exact q1 _ (Ey hl hx hc hb) p H (jD hs)
  .rintro U H ⟨y,z,rfl,hb,hs⟩;right;exact q0 (qU hl λi w hi=>hb i w (tz.mp hi).1 hi) _ hs
 .have fin:∀ p,H p=none->ae tab R (k-1) 0 [wf p,wl (-1)] (upd H p (.exc (R.cad 1) none [] true)) (λv H2=>v=wp/\∃ b i dx fs,wf p=wf b/\H2 b=some (.exc (R.cad i) dx fs true)/\tab.xc.contains i=true/\E b (upd H2 b (.exc (R.cad i) dx fs false))) E:=by
   intro p hp;refine eK nofun (s.new hp) (λd H hs=>?_);refine⟨rfl,?_⟩;refine eD (G:=⟨tab,R,ae tab R 0,true⟩) hs (by ac_rfl) rfl (λH hs=>?_);exact q1 _ (Eu hl) p H (jD hs)
  by_cases h1:1<=xs.length
  .refine aM (decide_eq_true nofun) ?_;left;simp only[ro.g_MOST_CELLS];right;refine au (c:=decide ((xs.length:Int)<=60)) (decide_eq_false nofun) ?_;right;exact fin
  .refine au (decide_eq_false nofun) ?_;right;exact fin
abbrev aR (C p:Addr)(cs ws:List V):av:=ex λx:Addr×Addr×Addr=>pK (pt p (ww C x.1 [("contents",wf x.2.1),("permits",wf x.2.2)])) (pK (pt x.1 (.own p)) (pK (pt x.2.1 (wr cs)) (pt x.2.2 (wr ws))))
def bJ {p:Addr}{cs ws:List V}(s:Sep (aR C p cs ws::O) H):∃ dx a b,Sep (pt p (ww C dx [("contents",wf a),("permits",wf b)])::pt dx (.own p)::pt a (wr cs)::pt b (wr ws)::O) H:=by
 obtain⟨⟨dx,a,b⟩,s⟩:=Sep.G3.mp s;refine⟨dx,a,b,?_⟩;have s1:=Sep.star.mp s;have s2:=Sep.star.mp (s1.pull .k1);have s3:=Sep.star.mp (s2.pull .k1);exact((s3.pull .k2).pull .k3)
def dv {p b:Addr}{cs ws:List V}(s:Sep (pt p (ww C dx [("contents",wf a),("permits",wf b)])::pt dx (.own p)::pt a (wr cs)::pt b (wr ws)::O) H):Sep (aR C p cs ws::O) H:=by
 refine Sep.G3.mpr ⟨(dx,a,b),Sep.star.mpr ?_⟩;have s3:=Sep.star.mpr ((s.pull .k3).pull .k3);have s2:=Sep.star.mpr (s3.pull .k2);exact s2.pull .k1
def nW {p:Addr}(ro:Ro K R)(hk:4<=k)(s:Sep (pt p (ww (R.cad 19) dx [])::pt dx (.own p)::pt a (wr xs)::tys xs::O) H)
  (q0:bad xs=none->∀ H',Sep (aR (R.cad 19) p xs (sK xs.length (wn "open"))::pt a (wr xs)::tys xs::O) H'->Q wp H')
  (q1:∀ at',bad xs=some at'->∀ x H',Sep (j9 (R.cad 1) [("at",wl at')] x false::pt a (wr xs)::tys xs::O) H'->E x H'):ae tab R k 51 [wf p,wf a] H Q E:=by
 delta du;right;refine BM (O:=pt p (ww (R.cad 19) dx [])::pt dx (.own p)::O) ro nofun (s.sub (by ac_nf)) (λhb H hs=>?_) (λat' hb x H hs=>?_)
 .have hl:=CA hb;right;rename_i l H1 hs1 H2 hs2 m H3 hs3 w H4 hs4 H5 hs5;rw[t4]at hs5;exact q0 hb _ (dv (hs5.sub (by ac_nf)))
 .exact q1 at' hb x H (hs.sub (by ac_nf))
def fw {p:Addr}{cs ws:List V}(s:Sep O H)(h:ag (aR C p cs ws) O Δ):∃ dx a b,H p=some (ww C dx [("contents",wf a),("permits",wf b)]):=by
 obtain⟨dx,a,b,hs⟩:=bJ (s.pull h);exact⟨dx,a,b,hs.at⟩
def sP {p:Addr}{cs ws:List V}(hk:1<=k)(s:Sep (aR (R.cad 19) p cs ws::O) H)(q:Q (wl cs.length) H):ae tab R k 52 [wf p] H Q E:=by
 obtain⟨dx,a,b,hs⟩:=bJ s;delta iH;right;exact q
def FV {p:Addr}{cs ws:List V}(hk:1<=k)(s:Sep (aR (R.cad 19) p cs ws::O) H)(q:∀ l H',Sep (pt l (wr cs)::aR (R.cad 19) p cs ws::O) H'->Q (wf l) H'):ae tab R k 53 [wf p] H Q E:=by
 obtain⟨dx,a,b,hs⟩:=bJ s;delta gz;right;rename_i l H1 hs1;exact q l H1 ((dv (hs1.sub (by ac_nf))).pull .k1)
def aA {xs:List α}{x:α}(h0:0<=i)(hx:xs[i.toNat]? =some x):nZ xs i=some x:=by
 have h:=L2.nK hx
 rwa [Int.toNat_of_nonneg h0]at h
abbrev aj (ws:List Str)(d:Str)(i:Int):Bool:=decide (0<=i)&&(decide (i<ws.length)&&(match ws[i.toNat]? with
 |some w=>if w="look" then d =="look" else w =="open"
 |none=>false))
def ar {d:Str}(h:aj ws d i=true):0<=i/\i<ws.length:=by
 unfold aj at h;rw[nl,nl,decide_eq_true_eq,decide_eq_true_eq]at h;exact⟨h.1,h.2.1⟩
def xQ {p:Addr}{cs:List V}{d:Str}(hk:2<=k)(s:Sep (aR (R.cad 19) p cs (ws.map wn)::O) H)(hl:cs.length=ws.length)(q:Q (.bl (aj ws d i)) H):ae tab R k 55 [wf p,wn d,wl i] H Q E:=by
 delta jK;right;refine aD (λh0=>?_) (λh0=>?_)
 .obtain⟨dx,a,b,e⟩:=fw s .e;right;refine⟨_,19,_,_,_,rfl,e,rfl,rfl,?_⟩;left;refine sP nofun s ?_;right;refine aD (λh1=>?_) (λh1=>?_)
  .obtain⟨dx,a,b,hs⟩:=bJ s;have h2:i.toNat<ws.length:=by omega
   have e1:ws[i.toNat]? =some ws[i.toNat]:=li h2;generalize ws[i.toNat]=w at e1;have e2:(ws.map wn)[i.toNat]? =some (wn w):=by rw[io,e1];rfl
   have e3:aj ws d i=(if w="look" then d =="look" else w =="open"):=by
    unfold aj;rw[e1,decide_eq_true h0,decide_eq_true (by omega:i<ws.length)]
    rfl
   rw[e3]at q;right;refine aJ (by grind) (aA h0 e2) ?_;right;refine bT (λhw=>?_) (λhw=>?_)
   .have hw:w="look":=by simpa[ef] using hw
    rw[if_pos hw]at q;right;exact q
   .have hw:¬ w="look":=by simpa[ef] using hw
    rw[if_neg hw]at q;right;refine aJ (by grind) (aA h0 e2) ?_;right;exact q
  .have e3:aj ws d i=false:=by
    unfold aj;rw[decide_eq_false (by omega:¬ i<ws.length),Bool.false_and,Bool.and_false]
   rw[e3]at q;right;exact q
 .have e3:aj ws d i=false:=by
   unfold aj;rw[decide_eq_false h0,Bool.false_and]
  rw[e3]at q;right;exact q
def fk {x:Addr}{w:V}(hk:1<=k)(s:Sep (pt x (.exc (R.cad 3) none [] true)::O) H)(q:∀ d H',Sep (pt x (.exc (R.cad 3) (some d) [("deed",v),("cell",w)] true)::pt d (.own x)::O) H'->Q wp H'):ae tab R k 2 [wf x,v,w] H Q E:=by
 delta d7;right;refine⟨_,3,_,_,_,_,rfl,by grind,rfl,?_⟩;right;refine uk s rfl rfl (λd H hs=>?_);right;refine CZ hs (by ac_rfl) rfl rfl (pc rfl) rfl (λH hs=>?_);right;exact q d H hs
def Gv {p:Addr}{cs:List V}(hk:3<=k)(s:Sep (aR (R.cad 19) p cs (ws.map wn)::O) H)(hl:cs.length=ws.length)(q0:aj ws "look" i=true->∀ x,cs[i.toNat]? =some x->Q x H)
  (q1:aj ws "look" i=false->∀ x H',Sep (j9 (R.cad 3) [("deed",wn "look"),("cell",wl i)] x false::aR (R.cad 19) p cs (ws.map wn)::O) H'->E x H'):ae tab R k 56 [wf p,wl i] H Q E:=by
 delta iw;obtain⟨dx,a,b,e⟩:=fw s .e;right;refine⟨_,19,_,_,_,rfl,e,rfl,rfl,?_⟩;left;refine xQ nofun s hl ?_;right;refine bT (λhm=>?_) (λhm=>?_)
 .obtain⟨h0,h1⟩:=ar hm;obtain⟨dx,a,b,hs⟩:=bJ s;have h2:i.toNat<cs.length:=by omega
  have e1:cs[i.toNat]? =some cs[i.toNat]:=li h2;right;refine aJ (by grind) (aA h0 e1) ?_;exact q0 hm _ e1
 .right;intro x hx;refine fk nofun (s.new hx) (λd H hs=>?_);right;refine eD hs (by ac_rfl) rfl (λH hs=>?_);exact q1 hm x H (jD hs)
def I0 {p:Addr}{cs:List V}(hk:3<=k)(s:Sep (aR (R.cad 19) p cs (ws.map wn)::O) H)(hl:cs.length=ws.length)(q0:aj ws "put" i=true->∀ H',Sep (aR (R.cad 19) p (cs.set i.toNat v) (ws.map wn)::O) H'->Q wp H')
  (q1:aj ws "put" i=false->∀ x H',Sep (j9 (R.cad 3) [("deed",wn "put"),("cell",wl i)] x false::aR (R.cad 19) p cs (ws.map wn)::O) H'->E x H'):ae tab R k 57 [wf p,wl i,v] H Q E:=by
 delta jE;obtain⟨dx,a,b,e⟩:=fw s .e;right;refine⟨_,19,_,_,_,rfl,e,rfl,rfl,?_⟩;left;refine xQ nofun s hl ?_;right;refine bT (λhm=>?_) (λhm=>?_)
 .obtain⟨h0,h1⟩:=ar hm;obtain⟨dx,a,b,hs⟩:=bJ s;right;refine dA hs (by ac_rfl) (cp h0 nofun) rfl (λH hs=>?_);right;exact q0 hm H (dv hs)
 .right;intro x hx;refine fk nofun (s.new hx) (λd H hs=>?_);right;refine eD hs (by ac_rfl) rfl (λH hs=>?_);exact q1 hm x H (jD hs)
def kN {x:Addr}{w z:V}(hk:1<=k)(s:Sep (pt x (.exc (R.cad 2) none [] true)::O) H)(q:∀ d H',Sep (pt x (.exc (R.cad 2) (some d) [("low",v),("behind",w),("word",z)] true)::pt d (.own x)::O) H'->Q wp H'):ae tab R k 1 [wf x,v,w,z] H Q E:=by
 delta cP;right;refine⟨_,2,_,_,_,_,rfl,by grind,rfl,?_⟩;right;refine uk s rfl rfl (λd H hs=>?_);right;refine CZ hs (by ac_rfl) rfl rfl (pc rfl) rfl (λH hs=>?_);right;refine CZ hs (by ac_rfl) rfl rfl (pc rfl) rfl (λH hs=>?_);right;exact q d H hs
abbrev c8 (w:Str):Bool:="open" ==w||("look" ==w||("shut" ==w||false))
abbrev ck:V->Bool
 | wn w=>c8 w
 |_=>false
def sL (ro:Ro K R)(hk:1<=k)(ht:tyName v H=some t)(q:Q (.bl (ck v)) H):ae tab R k 49 [v] H Q E:=by
 delta kS;right;cases dC ht
 case str x=>
  right;obtain⟨a,hg,hs⟩:=ro.g_LEAVES;simp only[hg];right;exact fL (xs:=[wn "open",wn "look",wn "shut"]) (ro.hK▸hs _) rfl rfl q
 all_goals
  refine cX ht rfl ?_;right;exact q
abbrev ay (n:Nat):V->V->Bool
 | wl a,wl b=>decide (0<=a)&&(decide (a<=b)&&decide (b<=n))
 |_,_=>false
def js {w:V}{u:String}(hk:2<=k)(ht:tyName v H=some t)(hu:tyName w H=some u)(q:Q (.bl (ay n v w)) H):ae tab R k 50 [v,w,wl n] H Q E:=by
 delta jl;right;refine aK nofun ht ?_;cases dC ht
 case int i=>
  right;refine aK nofun hu ?_;cases dC hu
  case int j=>
   right;refine aD (λh0=>?_) (λh0=>?_)
   .right;refine aD (λh1=>?_) (λh1=>?_)
    .right;have e:ay n (wl i) (wl j)=decide (j<=n):=by simp[ay,h0,h1]
     rw[e]at q;exact q
    .right;have e:ay n (wl i) (wl j)=false:=by simp[ay,h1]
     rw[e]at q;exact q
   .right;have e:ay n (wl i) (wl j)=false:=by simp[ay,h0]
    rw[e]at q;exact q
  all_goals
   right;exact q
 all_goals
  right;exact q
abbrev bO (w:Str)(ws:List Str)(lo:Nat):Nat->List Str
 |0=>ws
 |n+1=>(bO w ws lo n).set (lo+n) w
def dh {w:Str}{ws:List Str}{lo:Nat}:∀ n,(bO w ws lo n).length=ws.length
 |0=>rfl
 |n+1=>by rw[bO,length_set,dh n]
def t6 {p:Addr}{cs:List V}{v1 v2 v3:V}{t1 t2 t3:String}(ro:Ro K R)(hk:3<=k)(s:Sep (aR (R.cad 19) p cs (ws.map wn)::O) H)(hl:cs.length=ws.length)(h60:ws.length<=60)
  (ht1:tyName v1 H=some t1) (ht2:tyName v2 H=some t2) (ht3:tyName v3 H=some t3)
  (q0:∀ a b w,v1=wl a->v2=wl b->v3=wn w->ay ws.length v1 v2=true->c8 w=true->∀ H',Sep (aR (R.cad 19) p cs ((bO w ws a.toNat (b-a).toNat).map wn)::O) H'->Q wp H')
  (q1:(ay ws.length v1 v2&&ck v3)=false->∀ x H',Sep (j9 (R.cad 2) [("low",v1),("behind",v2),("word",v3)] x false::aR (R.cad 19) p cs (ws.map wn)::O) H'->E x H'):ae tab R k 54 [wf p,v1,v2,v3] H Q E:=by
 delta fQ;obtain⟨dx,a,b,e⟩:=fw s .e;right;refine⟨_,19,_,_,_,rfl,e,rfl,rfl,?_⟩;left;refine sP nofun s ?_;left;rw[hl];refine js nofun ht1 ht2 ?_;right;have fin:(ay ws.length v1 v2&&ck v3)=false->∀ x,H x=none->ae tab R (k-1) 1 [wf x,v1,v2,v3] (upd H x (.exc (R.cad 2) none [] true)) (λv H2=>v=wp/\∃ b i dx fs,wf x=wf b/\H2 b=some (.exc (R.cad i) dx fs true)/\tab.xc.contains i=true/\E b (upd H2 b (.exc (R.cad i) dx fs false))) E:=by
  intro hb x hx;refine kN nofun (s.new hx) (λd H hs=>?_);refine⟨rfl,?_⟩;refine eD (G:=⟨tab,R,ae tab R 0,true⟩) hs (by ac_rfl) rfl (λH hs=>?_);exact q1 hb x H (jD hs)
 refine bT (λhw=>?_) (λhw=>?_)
 .right;refine sL ro nofun ht3 ?_;right;refine bT (λhv=>?_) (λhv=>?_)
  .obtain⟨i,j,rfl,rfl⟩:∃ i j,v1=wl i/\v2=wl j:=by
    unfold ay at hw
    split at hw
    .exact⟨_,_,rfl,rfl⟩
    .cases hw
   obtain⟨w,rfl⟩:∃ w,v3=wn w:=by
    unfold ck at hv
    split at hv
    .exact⟨_,rfl⟩
    .cases hv
   have hw':0<=i/\i<=j/\j<=ws.length:=by simpa[ay] using hw
   right;refine cY (λn U H=>∃ y,U=[some (wf p),some (wl i),some (wl j),some (wn w),y]/\Sep (aR (R.cad 19) p cs ((bO w ws i.toNat n).map wn)::O) H) ?_ ?_ ?_
   .exact⟨none,rfl,s⟩
   .rintro n U H hn ⟨y,rfl,hs⟩;obtain⟨dx,a,b,hs⟩:=bJ hs;right;refine dA hs (by ac_rfl) (cp nofun (by rw[ce,dh];omega)) rfl (λH hs=>?_);right;refine⟨_,rfl,?_⟩;have e:((bO w ws i.toNat n).map wn).set (i+(n:Int)).toNat (wn w)=(bO w ws i.toNat (n+1)).map wn:=by
     rw[bO,List.map_set,show(i+(n:Int)).toNat=i.toNat+n by omega]
    rw[e]at hs;exact dv hs
   .rintro U H ⟨y,rfl,hs⟩;right;exact q0 i j w rfl rfl rfl hw hv H hs
  .right;exact fin (by rw[hv,Bool.and_false])
 .right;exact fin (by rw[hw,Bool.false_and])
def mi:(10:Int) ^ Int.toNat 9=1000000000:=by decide
local macro_rules| `(tactic|walk_at "dr")=>`(tactic|(refine' tQ ?k ?s ?m ?a ?b (λr H hr0 hr1 hs=>?_);(case s=>walk_at "sp");(case k=>exact nofun);(case m=>omega);(case a=>walk_at "ar");(case b=>walk_at "ar")))
local macro_rules| `(tactic|walk_at "gd")=>`(tactic|(walk_at "w";repeat(first|(walk_at "st";walk_at "w")|(walk_at "dr";walk_at "w"))))
abbrev c5 (ns:List Int):Prop:=∀ i ∈ ns,0<=i/\i<=1000000000
def tD (h:c5 ns)(h0:0<=i)(h1:i<=1000000000):c5 (ns++[i]):=λj hj=>by
 rcases mem_append.mp hj with hj|hj
 .exact h j hj
 .rw[mem_singleton.mp hj];exact⟨h0,h1⟩
def vF (h:c5 ns)(h0:0<=i)(h1:i<=1000000000):c5 (ns.set n i):=λj hj=>by
 rcases List.mem_or_eq_of_mem_set hj with hj|rfl
 .exact h j hj
 .exact⟨h0,h1⟩
abbrev bx (f:α->List av):av:=⟨λH D=>∃ x,bA (f x) H D,λH H' D ⟨x,h⟩ k t=>⟨x,bA.st h k t⟩,λH D D' ⟨x,h⟩ k=>⟨x,bA.up h k⟩⟩
def gN:∀ {O Δ:List av}{D:Addr->Prop},bA (O++Δ) H D ↔ ∃ D1 D2:Addr->Prop,(∀ a,D1 a->D a)/\(∀ a,D2 a->D a)/\(∀ a,D1 a->D2 a->False)/\bA O H D1/\bA Δ H D2
 | [],Δ,D=>⟨λh=>⟨λ_=>False,D,λ_ z=>z.elim,λ_ z=>z,λ_ z _=>z,True.intro,h⟩,λ⟨_,_,_,s2,_,_,h⟩=>bA.up h s2⟩
 |A::O,Δ,D=>by
  constructor
  .rintro⟨E1,E2,s1,s2,dj,hA,h⟩;obtain⟨F1,F2,t1,t2,dk,h1,h2⟩:=gN.mp h;refine⟨λa=>E1 a\/F1 a,F2,λa z=>z.elim (s1 a) λz=>s2 a (t1 a z),λa z=>s2 a (t2 a z),λa z w=>z.elim (λz=>dj a z (t2 a w)) λz=>dk a z w,?_,h2⟩;exact⟨E1,F1,λa z=>.inl z,λa z=>.inr z,λa z w=>dj a z (t1 a w),hA,h1⟩
  .rintro⟨D1,D2,s1,s2,dj,⟨E1,E2,t1,t2,dk,hA,h1⟩,h2⟩;refine⟨E1,λa=>E2 a\/D2 a,λa z=>s1 a (t1 a z),λa z=>z.elim (λz=>s1 a (t2 a z)) (s2 a),λa z w=>w.elim (dk a z) λw=>dj a (t1 a z) w,hA,?_⟩;exact gN.mpr ⟨E2,D2,λa z=>.inl z,λa z=>.inr z,λa z w=>dj a (t2 a z) w,h1,h2⟩
def iK {f:α->List av}(s:Sep (bx f::O) H):∃ x,Sep (f x++O) H:=by
 obtain⟨D,k,D1,D2,s1,s2,dj,⟨x,h1⟩,h2⟩:=s;exact⟨x,D,k,gN.mpr ⟨D1,D2,s1,s2,dj,h1,h2⟩⟩
def gQ {f:α->List av}(x:α)(s:Sep (f x++O) H):Sep (bx f::O) H:=by
 obtain⟨D,k,h⟩:=s;obtain⟨D1,D2,s1,s2,dj,h1,h2⟩:=gN.mp h;exact⟨D,k,D1,D2,s1,s2,dj,⟨x,h1⟩,h2⟩
abbrev pJ:List Str:=["here","there","left","way","sign","met"]
abbrev wY:List Key:=[.inr "here",.inr "there",.inr "left",.inr "way",.inr "sign",.inr "met"]
abbrev eU:V->Bool
 | wl i=>decide (-1000000000<=i)&&decide (i<=1000000000)
 |_=>false
abbrev mj (a b:Int):V->Bool
 | wl i=>i ==a||i ==b
 |_=>false
abbrev bB:Nat->V->Bool
 |0,v=>eU v
 |1,v=>eU v
 |3,v=>mj 1 (-1) v
 |5,v=>mj 0 1 v
 |_,v=>fM v
def et (ro:Ro K R)(hk:2<=k)(ht:tyName v H=some t)(q:Q (.bl (eU v)) H):ae tab R k 13 [v] H Q E:=by
 delta jH;right;refine aK nofun ht ?_;cases dC ht
 case int i=>
  left;refine aM rfl ?_;left;simp only[ro.g_BOUND];right;refine aD (λh0=>?_) (λh0=>?_)
  .left;simp only[ro.g_BOUND];right;have e:eU (wl i)=decide (i<=1000000000):=by simp[eU,h0]
   rw[e]at q;exact q
  .right;have e:eU (wl i)=false:=by simp[eU,h0]
   rw[e]at q;exact q
 all_goals
  right;exact q
def kO {j:Nat}{x:Str}(h:pJ[j]? =some x):(j=0/\x="here")\/(j=1/\x="there")\/(j=2/\x="left")\/(j=3/\x="way")\/(j=4/\x="sign")\/(j=5/\x="met"):=by
 rcases j with _|_|_|_|_|_|j
 .cases h;exact .inl ⟨rfl,rfl⟩
 .cases h;exact .inr (.inl ⟨rfl,rfl⟩)
 .cases h;exact .inr (.inr (.inl ⟨rfl,rfl⟩))
 .cases h;exact .inr (.inr (.inr (.inl ⟨rfl,rfl⟩)))
 .cases h;exact .inr (.inr (.inr (.inr (.inl ⟨rfl,rfl⟩))))
 .cases h;exact .inr (.inr (.inr (.inr (.inr ⟨rfl,rfl⟩))))
 .exact absurd h (by simp[pJ])
local macro_rules| `(tactic|walk_at "sc")=>`(tactic|first|(refine aM (by decide+kernel) ?_;walk_at "go")|(refine au (by decide+kernel) ?_;walk_at "go"))
def sr {j:Nat}{x:Str}(ro:Ro K R)(hk:3<=k)(hj:pJ[j]? =some x)(ht:tyName v H=some t)(q:Q (.bl (bB j v)) H):ae tab R k 14 [wn x,v] H Q E:=by
 delta yd;rcases kO hj with⟨rfl,rfl⟩|⟨rfl,rfl⟩|⟨rfl,rfl⟩|⟨rfl,rfl⟩|⟨rfl,rfl⟩|⟨rfl,rfl⟩
 all_goals right
 all_goals repeat walk_at "sc"
 .exact et ro nofun ht q
 .exact et ro nofun ht q
 .exact cx ro nofun ht q
 .refine aK nofun ht ?_;cases dC ht
  case int i=>
   right;refine aG (λh0=>?_) (λh0=>?_)
   .right;have e:bB 3 (wl i)=true:=by simp[bB,mj,h0]
    rw[e]at q;exact q
   .right;have e:bB 3 (wl i)=(i == -1):=by simp[bB,mj,h0]
    rw[e]at q;exact q
  all_goals
   right;exact q
 .exact cx ro nofun ht q
 .refine aK nofun ht ?_;cases dC ht
  case int i=>
   right;refine aG (λh0=>?_) (λh0=>?_)
   .right;have e:bB 5 (wl i)=true:=by simp[bB,mj,h0]
    rw[e]at q;exact q
   .right;have e:bB 5 (wl i)=(i ==1):=by simp[bB,mj,h0]
    rw[e]at q;exact q
  all_goals
   right;exact q
abbrev boxes (R:Rt)(b:Addr)(ns:List Int):av:=bx λx:Addr×Addr=>[pt b (ww (R.cad 11) x.1 [("numbers",wf x.2)]),pt x.1 (.own b),pt x.2 (.dK (wY.zip (ns.map wl))),pu (ns.length=6)]
def hG {b:Addr}(s:Sep (boxes R b ns::O) H):∃ dx d,ns.length=6/\Sep (pt b (ww (R.cad 11) dx [("numbers",wf d)])::pt dx (.own b)::pt d (.dK (wY.zip (ns.map wl)))::O) H:=by
 obtain⟨⟨dx,d⟩,s⟩:=iK s;have s:Sep (pt b (ww (R.cad 11) dx [("numbers",wf d)])::pt dx (.own b)::pt d (.dK (wY.zip (ns.map wl)))::pu (ns.length=6)::O) H:=s;have p:=(s.pull .k3).pure;exact⟨dx,d,p,(s.pull .k3).drop⟩
def iI {b:Addr}(hn:ns.length=6)(s:Sep (pt b (ww (R.cad 11) dx [("numbers",wf d)])::pt dx (.own b)::pt d (.dK (wY.zip (ns.map wl)))::O) H):Sep (boxes R b ns::O) H:=
 gQ (dx,d) (Sep.push .k3 (Sep.tR hn s))
def six {ns:List α}(h:ns.length=6):∃ a b c d e f,ns=[a,b,c,d,e,f]:=by
 match ns,h with
 | [a,b,c,d,e,f],_=>exact⟨a,b,c,d,e,f,rfl⟩
def uD {j:Nat}{x:Str}(hn:ns.length=6)(hj:pJ[j]? =some x):∃ i,ns[j]? =some i/\jU (wY.zip (ns.map wl)) (.inr x)=some (wl i):=by
 obtain⟨a,b,c,d,e,f,rfl⟩:=six hn;rcases kO hj with⟨rfl,rfl⟩|⟨rfl,rfl⟩|⟨rfl,rfl⟩|⟨rfl,rfl⟩|⟨rfl,rfl⟩|⟨rfl,rfl⟩<;>exact⟨_,rfl,rfl⟩
def Bb {b:Addr}(ro:Ro K R)(hk:1<=k)(s:Sep (boxes R b ns::O) H)(q:∀ t H',Sep (tu t (ns.map wl)::boxes R b ns::O) H'->Q (wf t) H'):ae tab R k 18 [wf b] H Q E:=by
 obtain⟨dx,d,hn,s⟩:=hG s;delta gL;right;obtain⟨a,hg,hS⟩:=ro.g_NAMES;simp only[hg];rw[<-ro.hK]at hS;right;refine HC (hS H) ?_;refine Fm (xs:=pJ.map wn) (pc rfl) (λD ys H=>ys=(ns.map wl).take ys.length/\Sep (pt D (wr ys)::pt b (ww (R.cad 11) dx [("numbers",wf d)])::pt dx (.own b)::pt d (.dK (wY.zip (ns.map wl)))::O) H) ?_ ?_ ?_ ?_
 .intro D ys H _;exact hS H
 .intro D hD;exact⟨rfl,s.new hD⟩
 .rintro D ys x H' hx ⟨e,hs⟩;rw[io]at hx;obtain⟨z,hz,rfl⟩:=nw.mp hx;obtain⟨i,h1,h2⟩:=uD hn hz;right;refine nR (k:=.inr z) (by grind) h2 ?_;have hlt:=(tz.mp h1).1;refine vb.mk (by grind) nofun ⟨?_,?_⟩
  .have e2:(ns.map wl)[ys.length]? =some (wl i):=by rw[io,h1];rfl
   rw[ci,ge,take_succ,e2]
   conv=>lhs;rw[e]
   rfl
  .exact hs.set rfl
 .rintro D ys H' hl ⟨e,hs⟩;have e2:ys=ns.map wl:=by
   rw[e,hl];rw[take_of_length_le];simp[pJ,hn]
  subst e2;right;refine Fb hs (by grind) (λp H hs=>?_);right;refine q p H ?_;refine Sep.pull .k1 (iI (dx:=dx) (d:=d) hn ?_);walk_at "sp"
def uN {x:Addr}(ro:Ro K R)(hk:4<=k)(hn:ns.length=6)(hf:∀ (j:Nat) i,ns[j]? =some i->bB j (wl i)=true) (s:Sep (pt x (ww (R.cad 11) dx [])::pt dx (.own x)::O) H) (q:∀ H',Sep (boxes R x ns::O) H'->Q wp H'):
  ae tab R k 15 (wf x::ns.map wl) H Q E:=by
 obtain⟨a0,a1,a2,a3,a4,a5,rfl⟩:=six hn;delta dB;right;rename_i p H1 hs1;obtain⟨na,hg,hS⟩:=ro.g_NAMES;simp only[hg];rw[<-ro.hK]at hS;right;refine Ce (tp1:=true) (tp2:=true) (xs:=pJ.map wn) (ys:=[wl a0,wl a1,wl a2,wl a3,wl a4,wl a5]) (hS _) (bc.of hs1.at) ?_;refine pF (xs:=pJ.map wn) (ys:=[wl a0,wl a1,wl a2,wl a3,wl a4,wl a5]) (λj U H=>∃ v w,U=[some (wf x),some (wl a0),some (wl a1),some (wl a2),some (wl a3),some (wl a4),some (wl a5),some (wf p),v,w]/\Sep (pt p (wv [wl a0,wl a1,wl a2,wl a3,wl a4,wl a5])::pt x (ww (R.cad 11) dx [])::pt dx (.own x)::O) H) rfl ?_ ?_ ?_ ?_
 .exact⟨none,none,rfl,hs1⟩
 .rintro j U H ⟨v,w,rfl,hs⟩;exact⟨hS _,bc.of hs.at⟩
 .rintro j y z T U H hy hz ⟨v,w,rfl,hs⟩ hT;rw[io]at hy;obtain⟨nm,hnm,rfl⟩:=nw.mp hy;obtain⟨i,hi,rfl⟩:∃ i,([a0,a1,a2,a3,a4,a5]:List Int)[j]? =some i/\z=wl i:=by
   have hz':(([a0,a1,a2,a3,a4,a5]:List Int).map wl)[j]? =some z:=hz;rw[io]at hz';obtain⟨i,h1,h2⟩:=nw.mp hz';exact⟨i,h1,h2.symm⟩
  have hs2:=hs.iG (xs:=[wn nm,wl i]) hT;left;refine⟨T,_,rfl,.inl (bc.of hs2.atT),rfl,?_⟩;right;refine sr ro nofun hnm rfl ?_;rw[hf j i hi];right;exact⟨_,_,rfl,hs2.drop⟩
 .rintro U H ⟨v,w,rfl,hs⟩;right;simp only[hg];right;refine HE (tp1:=true) (tp2:=true) (ks:=wY) (ys:=([a0,a1,a2,a3,a4,a5]:List Int).map wl) hs (hS _) (bc.of hs.at) (by decide+kernel) rfl (pc rfl) (λd H2 hs2=>?_);right;rename_i H3 hs3;refine q _ ?_;refine iI (dx:=dx) (d:=d) rfl ?_;walk_at "sp"
def Af {j:Nat}{x:Str}(ro:Ro K R)(hk:1<=k)(hj:pJ[j]? =some x)(q:Q (.bl true) H):ae tab R k 12 [wn x] H Q E:=by
 delta kM;right;obtain⟨a,hg,hs⟩:=ro.g_NAMES;simp only[hg];have hs':=hs H;rw[<-ro.hK]at hs';right;refine fL hs' rfl rfl ?_;rcases kO hj with⟨rfl,rfl⟩|⟨rfl,rfl⟩|⟨rfl,rfl⟩|⟨rfl,rfl⟩|⟨rfl,rfl⟩|⟨rfl,rfl⟩<;>exact q
def dN {b:Addr}{j:Nat}{x:Str}(ro:Ro K R)(hk:2<=k)(s:Sep (boxes R b ns::O) H)(hj:pJ[j]? =some x)(hi:ns[j]? =some i)(q:Q (wl i) H):ae tab R k 16 [wf b,wn x] H Q E:=by
 obtain⟨dx,d,hn,s⟩:=hG s;delta fT;right;refine Af ro nofun hj ?_;right;obtain⟨i',h1,h2⟩:=uD hn hj;rw[hi]at h1;cases h1;exact nR (k:=.inr x) (by grind) h2 q
def vD {b:Addr}(ro:Ro K R)(hk:5<=k)(s:Sep (boxes R b ns::O) H)(q:∀ c H',Sep (boxes R c ns::boxes R b ns::O) H'->Q (wf c) H'):ae tab R k 19 [wf b] H Q E:=by
 delta ff;right;intro x dx h1 h2 h3;refine uN (ns:=[0,0,0,1,0,0]) ro nofun rfl ?_ (gJ s h1 h2 h3) (λH1 hs1=>?_)
 .intro j i hi;rcases j with _|_|_|_|_|_|j<;>first|(cases hi;rfl)|exact absurd hi (by simp)
 refine⟨rfl,?_⟩;obtain⟨dx1,d1,hn1,hs2⟩:=hG hs1;obtain⟨dx2,d2,hn2,hs3⟩:=hG (hs2.pull .k3);right;refine tV hs3 (by grind) (λd3 H3 hs4=>?_);right;rename_i H4 hs5;refine q _ _ ?_;refine iI (dx:=dx1) (d:=d3) hn2 ?_;refine Sep.push .k3 (iI (dx:=dx2) (d:=d2) hn2 ?_);walk_at "sp"
def iz {x:Addr}{w:V}(hk:1<=k)(s:Sep (pt x (.exc (R.cad 4) none [] true)::O) H)(q:∀ d H',Sep (pt x (.exc (R.cad 4) (some d) [("box",v),("number",w)] true)::pt d (.own x)::O) H'->Q wp H'):ae tab R k 3 [wf x,v,w] H Q E:=by
 delta dg;right;refine⟨_,4,_,_,_,_,rfl,by grind,rfl,?_⟩;right;refine uk s rfl rfl (λd H hs=>?_);right;refine CZ hs (by ac_rfl) rfl rfl (pc rfl) rfl (λH hs=>?_);right;exact q d H hs
abbrev IZ:V->Bool
 | wn x=>GX (wn x) (pJ.map wn)
 |_=>false
def nH (ro:Ro K R)(hk:1<=k)(ht:tyName v H=some t)(q:Q (.bl (IZ v)) H):ae tab R k 12 [v] H Q E:=by
 delta kM;right;obtain⟨a,hg,hs⟩:=ro.g_NAMES;have hs':=hs H;rw[<-ro.hK]at hs';cases dC ht
 case str x=>
  refine cX ht rfl ?_;left;refine aM rfl ?_;left;simp only[hg];right;exact fL hs' rfl rfl q
 all_goals
  refine cX ht rfl ?_;right;exact q
def rQ {j:Nat}{x:Str}(hj:pJ[j]? =some x):IZ (wn x)=true:=by
 rcases kO hj with⟨rfl,rfl⟩|⟨rfl,rfl⟩|⟨rfl,rfl⟩|⟨rfl,rfl⟩|⟨rfl,rfl⟩|⟨rfl,rfl⟩<;>rfl
def uT {j:Nat}{x:Str}(hn:ns.length=6)(hj:pJ[j]? =some x):putK (wY.zip (ns.map wl)) (.inr x) (wl i)=wY.zip ((ns.set j i).map wl):=by
 obtain⟨a,b,c,d,e,f,rfl⟩:=six hn;rcases kO hj with⟨rfl,rfl⟩|⟨rfl,rfl⟩|⟨rfl,rfl⟩|⟨rfl,rfl⟩|⟨rfl,rfl⟩|⟨rfl,rfl⟩<;>rfl
def Gy {b:Addr}{j:Nat}{x:Str}(ro:Ro K R)(hk:4<=k)(s:Sep (boxes R b ns::O) H)(hj:pJ[j]? =some x)(hf:bB j (wl i)=true)(q:∀ H',Sep (boxes R b (ns.set j i)::O) H'->Q wp H'):ae tab R k 17 [wf b,wn x,wl i] H Q E:=by
 obtain⟨dx,d,hn,s⟩:=hG s;delta dF;right;refine nH (t:="str") ro nofun rfl ?_;rw[rQ hj];right;refine sr ro nofun hj rfl ?_;rw[hf];right;refine ve (k:=.inr x) (kvs':=wY.zip ((ns.set j i).map wl)) s (by ac_rfl) (by rw[length_zip,ce,hn];decide) (uT hn hj) (λH1 hs1=>?_);right;exact q H1 (iI (by rw[length_set];exact hn) hs1)
def rK {b:Addr}{j:Nat}{x:Str}(ro:Ro K R)(hk:4<=k)(s:Sep (boxes R b ns::O) H)(hj:pJ[j]? =some x)(ht:tyName v H=some t)(hf:bB j v=false)(q:∀ e d H',Sep (pt e (.exc (R.cad 4) (some d) [("box",wn x),("number",v)] false)::pt d (.own e)::boxes R b ns::O) H'->E e H'):ae tab R k 17 [wf b,wn x,v] H Q E:=by
 delta dF;right;refine nH (t:="str") ro nofun rfl ?_;rw[rQ hj];right;refine sr ro nofun hj ht ?_;rw[hf];right;intro e he;refine iz nofun (s.new he) (λd H3 hs3=>⟨rfl,?_⟩);exact eD (G:=⟨tab,R,ae tab R (k-1),true⟩) hs3 .e rfl (λH4 hs4=>q e d H4 hs4)
abbrev Ob (R:Rt)(A:av)(b:Addr)(i:Nat)(fl:List Str):Prop:=∀ H D,A.p H D->∃ dx fs,H b=some (ww (R.cad i) dx fs)/\fs.map (·.1)=fl
def tY {m:Str}:∀ {fs:List (Str×V)},(fs.map (·.1)).all (λx=>!(m ==x))=true->fs.lookup m=none
 | [],_=>rfl
 |(x,v)::fs,h=>by
  simp only[map_cons,all_cons,nl]at h;have h1:(m ==x)=false:=by simpa using h.1
  rw[lookup_cons,h1];exact tY h.2
def af {G:Gx}{b:Addr}{i f:Nat}{fl:List Str}{m:Str}{X:Nat->Prop}(o:Ob G.R A b i fl)(s:Sep O H)(p:ag A O Δ)(hm:fl.all (λx=>!(m ==x))=true) (hf:G.T.me.lookup (i,m)=some f) (h:X f):
  ∃ p' i' dx fs f',wf b=wf p'/\H p'=some (ww (G.R.cad i') dx fs)/\fs.lookup m=none/\G.T.me.lookup (i',m)=some f'/\X f':=by
 obtain⟨D,k,D1,D2,s1,s2,dj,h1,h2⟩:=s.pull p;obtain⟨dx,fs,e1,e2⟩:=o H D1 h1;exact⟨b,i,dx,fs,f,rfl,e1,tY (e2▸hm),hf,h⟩
structure Bx where
 h:Int
 t:Int
 l:Int
 w:Int
 s:Int
 m:Int
abbrev Bx.ls (x:Bx):List Int:=[x.h,x.t,x.l,x.w,x.s,x.m]
abbrev Bx.ok (x:Bx):Prop:=(-1000000000<=x.h/\x.h<=1000000000)/\(-1000000000<=x.t/\x.t<=1000000000)/\(0<=x.l/\x.l<=1000000000)/\(x.w=1\/x.w= -1)/\(0<=x.s/\x.s<=1000000000)/\(x.m=0\/x.m=1)
abbrev aP (R:Rt)(b:Addr)(x:Bx):av:=bx λ_:Unit=>[boxes R b x.ls,pu x.ok]
variable {x:Bx}
def dR {b:Addr}(s:Sep (aP R b x::O) H):x.ok/\Sep (boxes R b x.ls::O) H:=by
 obtain⟨_,s⟩:=iK s;have s:Sep (boxes R b x.ls::pu x.ok::O) H:=s;exact⟨(s.pull .k1).pure,(s.pull .k1).drop⟩
def my {b:Addr}(hx:x.ok)(s:Sep (boxes R b x.ls::O) H):Sep (aP R b x::O) H:=gQ () (Sep.push .k1 (Sep.tR hx s))
def lD {b:Addr}(s:Sep O H)(p:ag (aP R b x) O Δ):x.ok:=(dR (s.pull p)).1
def bq {b:Addr}:Ob R (aP R b x) b 11 ["numbers"]:=by
 rintro H D ⟨_,D1,D2,_,_,_,⟨⟨dx,d⟩,E1,E2,_,_,_,⟨_,h⟩,_⟩,_⟩;exact⟨dx,_,h,rfl⟩
def E9 (h:x.ok):∀ (j:Nat) i,x.ls[j]? =some i->bB j (wl i)=true:=by
 obtain⟨⟨h1,h2⟩,⟨h3,h4⟩,⟨h5,h6⟩,h7,⟨h8,h9⟩,h10⟩:=h;intro j i hi;rcases j with _|_|_|_|_|_|j
 .cases hi;simp[bB,eU,h1,h2]
 .cases hi;simp[bB,eU,h3,h4]
 .cases hi;simp[bB,fM,h5,h6]
 .cases hi;rcases h7 with e|e<;>rw[e]<;>rfl
 .cases hi;simp[bB,fM,h8,h9]
 .cases hi;rcases h10 with e|e<;>rw[e]<;>rfl
 .exact absurd hi (by simp[Bx.ls])
def uY (h: -1000000000<=i/\i<=1000000000):eU (wl i)=true:=by simp[eU,h.1,h.2]
def ua (h:0<=i/\i<=1000000000):fM (wl i)=true:=by simp[fM,h.1,h.2]
section
variable {b:Addr}{h t l w s m i:Int}
def Hw (ro:Ro K R)(hk:2<=k)(z:Sep O H)(p:ag (aP R b ⟨h,t,l,w,s,m⟩) O Δ)(q:Q (wl h) H):ae tab R k 16 [wf b,wn "here"] H Q E:=dN (j:=0) ro hk (dR (z.pull p)).2 rfl rfl q
def HV (ro:Ro K R)(hk:2<=k)(z:Sep O H)(p:ag (aP R b ⟨h,t,l,w,s,m⟩) O Δ)(q:Q (wl t) H):ae tab R k 16 [wf b,wn "there"] H Q E:=dN (j:=1) ro hk (dR (z.pull p)).2 rfl rfl q
def Fi (ro:Ro K R)(hk:2<=k)(z:Sep O H)(p:ag (aP R b ⟨h,t,l,w,s,m⟩) O Δ)(q:Q (wl l) H):ae tab R k 16 [wf b,wn "left"] H Q E:=dN (j:=2) ro hk (dR (z.pull p)).2 rfl rfl q
def FW (ro:Ro K R)(hk:2<=k)(z:Sep O H)(p:ag (aP R b ⟨h,t,l,w,s,m⟩) O Δ)(q:Q (wl w) H):ae tab R k 16 [wf b,wn "way"] H Q E:=dN (j:=3) ro hk (dR (z.pull p)).2 rfl rfl q
def Lf (ro:Ro K R)(hk:2<=k)(z:Sep O H)(p:ag (aP R b ⟨h,t,l,w,s,m⟩) O Δ)(q:Q (wl s) H):ae tab R k 16 [wf b,wn "sign"] H Q E:=dN (j:=4) ro hk (dR (z.pull p)).2 rfl rfl q
def HH (ro:Ro K R)(hk:2<=k)(z:Sep O H)(p:ag (aP R b ⟨h,t,l,w,s,m⟩) O Δ)(q:Q (wl m) H):ae tab R k 16 [wf b,wn "met"] H Q E:=dN (j:=5) ro hk (dR (z.pull p)).2 rfl rfl q
def qP {y:Bx}{j:Nat}{nm:Str}(ro:Ro K R)(hk:4<=k)(z:Sep O H)(r:aO (aP R b x) (aP R b y) O Γ')(hj:pJ[j]? =some nm)(hf:bB j (wl i)=true)(hx:x.ls.set j i=y.ls)(hy:x.ok->y.ok)(q:∀ H',Sep Γ' H'->Q wp H'):ae tab R k 17 [wf b,wn nm,wl i] H Q E:=by
 obtain⟨Δ,h1,h2⟩:=r.bG;obtain⟨hok,z2⟩:=dR (z.pull h1);refine Gy ro hk z2 hj hf (λH' z3=>q H' (Sep.push h2 (my (hy hok) ?_)));rw[hx]at z3;exact z3
def IE (ro:Ro K R)(hk:4<=k)(z:Sep O H)(r:aO (aP R b ⟨h,t,l,w,s,m⟩) (aP R b ⟨i,t,l,w,s,m⟩) O Γ')(hi: -1000000000<=i/\i<=1000000000)(q:∀ H',Sep Γ' H'->Q wp H'):ae tab R k 17 [wf b,wn "here",wl i] H Q E:=
 qP (j:=0) ro hk z r rfl (uY hi) rfl (λ⟨_,a⟩=>⟨hi,a⟩) q
def HG (ro:Ro K R)(hk:4<=k)(z:Sep O H)(r:aO (aP R b ⟨h,t,l,w,s,m⟩) (aP R b ⟨h,i,l,w,s,m⟩) O Γ')(hi: -1000000000<=i/\i<=1000000000)(q:∀ H',Sep Γ' H'->Q wp H'):ae tab R k 17 [wf b,wn "there",wl i] H Q E:=
 qP (j:=1) ro hk z r rfl (uY hi) rfl (λ⟨a1,_,a⟩=>⟨a1,hi,a⟩) q
def IW (ro:Ro K R)(hk:4<=k)(z:Sep O H)(r:aO (aP R b ⟨h,t,l,w,s,m⟩) (aP R b ⟨h,t,i,w,s,m⟩) O Γ')(hi:0<=i/\i<=1000000000)(q:∀ H',Sep Γ' H'->Q wp H'):ae tab R k 17 [wf b,wn "left",wl i] H Q E:=
 qP (j:=2) ro hk z r rfl (ua hi) rfl (λ⟨a1,a2,_,a⟩=>⟨a1,a2,hi,a⟩) q
def KA (ro:Ro K R)(hk:4<=k)(z:Sep O H)(r:aO (aP R b ⟨h,t,l,w,s,m⟩) (aP R b ⟨h,t,l,w,s,i⟩) O Γ')(hi:i=0\/i=1)(q:∀ H',Sep Γ' H'->Q wp H'):ae tab R k 17 [wf b,wn "met",wl i] H Q E:=
 qP (j:=5) ro hk z r rfl (by rcases hi with rfl|rfl<;>rfl) rfl (λ⟨a1,a2,a3,a4,a5,_⟩=>⟨a1,a2,a3,a4,a5,hi⟩) q
def A6 (ro:Ro K R)(hk:1<=k)(z:Sep O H)(p:ag (aP R b x) O Δ)(q:∀ t H',Sep (tu t (x.ls.map wl)::O) H'->Q (wf t) H'):ae tab R k 18 [wf b] H Q E:=by
 obtain⟨hok,z2⟩:=dR (z.pull p);exact Bb ro hk z2 (λt H' z3=>q t H' (Sep.push (.t p) (my hok (z3.pull .k1))))
def Cg (ro:Ro K R)(hk:4<=k)(hx:x.ok)(z:Sep (pt b (ww (R.cad 11) dx [])::pt dx (.own b)::O) H)(q:∀ H',Sep (aP R b x::O) H'->Q wp H'):
  ae tab R k 15 (wf b::x.ls.map wl) H Q E:=uN ro hk rfl (E9 hx) z (λH' z2=>q H' (my hx z2))
def yx (ro:Ro K R)(hk:4<=k)(hx:(Bx.mk h t l w s m).ok)(z:Sep (pt b (ww (R.cad 11) dx [])::pt dx (.own b)::O) H)(q:∀ H',Sep (aP R b ⟨h,t,l,w,s,m⟩::O) H'->Q wp H'):
  ae tab R k 15 [wf b,wl h,wl t,wl l,wl w,wl s,wl m] H Q E:=Cg (x:=⟨h,t,l,w,s,m⟩) ro hk hx z q
end
abbrev gt (cs:List Int)(i:Int):Int:=(cs[i.toNat]?).getD 0
def Ir {cs:List Int}{x:Int}(h:cs[i.toNat]? =some x):gt cs i=x:=by unfold gt;rw[h];rfl
def Bi {cs:List Int}(h0:0<=i)(h1:i<cs.length):cs[i.toNat]? =some (gt cs i):=by
 unfold gt;rw[li nofun]
 rfl
def iy {cs:List Int}(h0:0<=i)(h1:i<cs.length):nZ (cs.map wl) i=some (wl (gt cs i)):=aA h0 (by rw[io,Bi h0 h1];rfl)
def yV {cs:List Int}(hc:c5 cs):0<=gt cs i/\gt cs i<=1000000000:=by
 unfold gt;cases e:cs[i.toNat]? with
 |none=>exact⟨by decide,by decide⟩
 |some x=>exact hc x (cr e)
abbrev Ai (cs:List Int)(ws:List Str):Prop:=cs.length=ws.length/\1<=cs.length/\cs.length<=60/\c5 cs
abbrev aV (R:Rt)(a:Addr)(cs:List Int)(ws:List Str):av:=bx λ_:Unit=>[aR (R.cad 19) a (cs.map wl) (ws.map wn),pu (Ai cs ws)]
def fV {cs:List Int}(s:Sep (aV R a cs ws::O) H):Ai cs ws/\Sep (aR (R.cad 19) a (cs.map wl) (ws.map wn)::O) H:=by
 obtain⟨_,s⟩:=iK s;have s:Sep (aR (R.cad 19) a (cs.map wl) (ws.map wn)::pu (Ai cs ws)::O) H:=s;exact⟨(s.pull .k1).pure,(s.pull .k1).drop⟩
def gY {cs:List Int}(hx:Ai cs ws)(s:Sep (aR (R.cad 19) a (cs.map wl) (ws.map wn)::O) H):Sep (aV R a cs ws::O) H:=gQ () (Sep.push .k1 (Sep.tR hx s))
def cM {cs:List Int}(s:Sep O H)(p:ag (aV R a cs ws) O Δ):Ai cs ws:=(fV (s.pull p)).1
def bj {cs:List Int}:Ob R (aV R a cs ws) a 19 ["contents","permits"]:=by
 rintro H D ⟨_,D1,D2,_,_,_,⟨⟨dx,c,d⟩,E1,E2,_,_,_,⟨_,h⟩,_⟩,_⟩;exact⟨dx,_,h,rfl⟩
section
variable {a:Addr}{cs:List Int}{ws:List Str}{i v:Int}
def dG (hk:3<=k)(z:Sep O H)(p:ag (aV R a cs ws) O Δ)(q0:aj ws "look" i=true->Q (wl (gt cs i)) H)
  (q1:aj ws "look" i=false->∀ e H',Sep (j9 (R.cad 3) [("deed",wn "look"),("cell",wl i)] e false::O) H'->E e H'):ae tab R k 56 [wf a,wl i] H Q E:=by
 obtain⟨hok,z2⟩:=fV (z.pull p);refine Gv hk z2 (by rw[ce];exact hok.1) (λhm x hx=>?_) (λhm e H' z3=>q1 hm e H' (Sep.push (.t p) (gY hok (z3.pull .k1))));rw[io]at hx;obtain⟨y,hy,rfl⟩:=nw.mp hx;rw[<-Ir hy];exact q0 hm
def kB (hk:3<=k)(z:Sep O H)(r:aO (aV R a cs ws) (aV R a (cs.set i.toNat v) ws) O Γ')(hv:0<=v/\v<=1000000000)(q0:aj ws "put" i=true->∀ H',Sep Γ' H'->Q wp H')
  (q1:aj ws "put" i=false->∀ e H',Sep (j9 (R.cad 3) [("deed",wn "put"),("cell",wl i)] e false::O) H'->E e H'):ae tab R k 57 [wf a,wl i,wl v] H Q E:=by
 obtain⟨Δ,p,p'⟩:=r.bG;obtain⟨hok,z2⟩:=fV (z.pull p);refine I0 hk z2 (by rw[ce];exact hok.1) (λhm H' z3=>q0 hm H' ?_) (λhm e H' z3=>q1 hm e H' (Sep.push (.t p) (gY hok (z3.pull .k1))));refine Sep.push p' (gY ⟨by rw[length_set];exact hok.1,by rw[length_set];exact hok.2.1,by rw[length_set];exact hok.2.2.1,vF hok.2.2.2 hv.1 hv.2⟩ ?_);rw[List.map_set];exact z3
def Em {d:Str}(hk:2<=k)(z:Sep O H)(p:ag (aV R a cs ws) O Δ)(q:Q (.bl (aj ws d i)) H):ae tab R k 55 [wf a,wn d,wl i] H Q E:=by
 obtain⟨hok,z2⟩:=fV (z.pull p);exact xQ hk z2 (by rw[ce];exact hok.1) q
def ug (hk:1<=k)(z:Sep O H)(p:ag (aV R a cs ws) O Δ)(q:∀ l H',Sep (pt l (wr (cs.map wl))::O) H'->Q (wf l) H'):ae tab R k 53 [wf a] H Q E:=by
 obtain⟨hok,z2⟩:=fV (z.pull p);exact FV hk z2 (λl H' z3=>q l H' (Sep.push (.t p) (gY hok (z3.pull .k1))))
end
def wL {cs:List Int}(h1:1<=cs.length)(h60:cs.length<=60)(hc:c5 cs):bad (cs.map wl)=none:=by
 refine qU (by rw[ce];exact⟨h1,h60⟩) λi y hy=>?_
 rw[io]at hy;obtain⟨z,hz,rfl⟩:=nw.mp hy;exact ua (hc z (cr hz))
def ya {cs:List Int}(s:Sep O H):Sep (tys (cs.map wl)::O) H:=Sep.IK (λx hx=>by
 obtain⟨z,_,rfl⟩:=List.mem_map.mp hx;exact⟨"int",rfl⟩) s
def n8 {p:Addr}{cs:List Int}(ro:Ro K R)(hk:4<=k)(h1:1<=cs.length)(h60:cs.length<=60)(hc:c5 cs)(s:Sep (pt p (ww (R.cad 19) dx [])::pt dx (.own p)::O) H)(h:ag (pt a (wr (cs.map wl))) O Δ)
  (q:∀ H',Sep (aV R p cs (sK cs.length "open")::O) H'->Q wp H'):ae tab R k 51 [wf p,wf a] H Q E:=by
 have s2:=ya (cs:=cs) (s.pull (.j2 h));refine nW (a:=a) (dx:=dx) (O:=Δ) ro hk (s2.sub ?_) (λ_ H' z=>q H' ?_) (λat' hb=>absurd hb (by rw[wL h1 h60 hc];exact λz=>nomatch z))
 .ac_nf
 .refine Sep.push (.t h) ?_;have e:sK (cs.map wl).length (wn "open")=(sK cs.length ("open":Str)).map wn:=by rw[ce,map_replicate]
  rw[e]at z;have z2:=gY (cs:=cs) ⟨by rw[List.length_replicate],h1,h60,hc⟩ z;exact z2.sub (by ac_nf)
def aW {T:Tab}{f:Nat}{vs vs':List V}(e:vs=vs')(h:ae T R k f vs' H Q E):ae T R k f vs H Q E:=e▸h
local macro_rules| `(tactic|walk_at "ag")=>`(tactic|first|refine aW (vs':=[_,_]) rfl ?_|refine aW (vs':=[_,_,_]) rfl ?_|refine aW (vs':=[_]) rfl ?_|refine aW (vs':=[_,_,_,_]) rfl ?_)
local macro_rules| `(tactic|walk_at "mt")=>`(tactic|first|((with_reducible refine' af bq ?s ?p ?m ?f ?_);(case s=>with_reducible assumption);(case p=>symm);(case m=>exact rfl);(case f=>exact rfl))|((with_reducible refine' af bj ?s ?p ?m ?f ?_);(case s=>with_reducible assumption);(case p=>symm);(case m=>exact rfl);(case f=>exact rfl)))
local macro_rules| `(tactic|walk_at "hq")=>`(tactic|((with_reducible (first|refine' Hw ?r ?k ?s ?p ?_|refine' HV ?r ?k ?s ?p ?_|refine' Fi ?r ?k ?s ?p ?_|refine' FW ?r ?k ?s ?p ?_|refine' Lf ?r ?k ?s ?p ?_|refine' HH ?r ?k ?s ?p ?_));(case r=>with_reducible assumption);(case k=>exact nofun);(case s=>with_reducible assumption);(case p=>symm)))
local macro_rules| `(tactic|walk_at "gq")=>`(tactic|((with_reducible (first|refine' IE ?r ?k ?s ?p ?i (λH hs=>?_)|refine' HG ?r ?k ?s ?p ?i (λH hs=>?_)|refine' IW ?r ?k ?s ?p ?i (λH hs=>?_)|refine' KA ?r ?k ?s ?p ?i (λH hs=>?_)));(case r=>with_reducible assumption);(case k=>exact nofun);(case s=>with_reducible assumption);(case p=>ac_rfl);(case i=>omega)))
local macro_rules| `(tactic|walk_at "ws")=>`(tactic|(walk_at "w";repeat(first|(walk_at "st";walk_at "w")|(walk_at "mt";walk_at "w")|(walk_at "ag";(walk_at "hq");walk_at "w")|(walk_at "ag";(walk_at "gq");walk_at "w"))))
local macro_rules| `(tactic|walk_at "sc")=>`(tactic|first|(refine aM (by decide+kernel) ?_;walk_at "go")|(refine au (by decide+kernel) ?_;walk_at "go"))
inductive Out where
 |on (r:Int) (x:Bx) (cs:List Int)
 |no (d:Str) (c:Int)
section
variable {b a:Addr}{h t l w s m i j by':Int}{cs:List Int}{ws:List Str}
def Fp (ro:Ro K R)(hk:5<=k)(z:Sep O H)(r:aO (aP R b ⟨h,t,l,w,s,m⟩) (aP R b ⟨h+i,t,l,w,s,m⟩) O Γ')(hi: -1000000000<=h+i/\h+i<=1000000000)(q:∀ H',Sep Γ' H'->Q wp H'):ae tab R k 78 [wf b,wn "here",wl i] H Q E:=by
 obtain⟨Δ,p1,p2⟩:=r.bG;delta nP;left;refine⟨rfl,?_⟩;left;refine af bq z p1 rfl rfl ?_;left;refine⟨rfl,?_⟩;left;refine af bq z p1 rfl rfl ?_;left;refine Hw ro nofun z p1 ?_;left;exact IE ro nofun z r hi q
def Jx (ro:Ro K R)(hk:5<=k)(z:Sep O H)(r:aO (aP R b ⟨h,t,l,w,s,m⟩) (aP R b ⟨h,t+i,l,w,s,m⟩) O Γ')(hi: -1000000000<=t+i/\t+i<=1000000000)(q:∀ H',Sep Γ' H'->Q wp H'):ae tab R k 78 [wf b,wn "there",wl i] H Q E:=by
 obtain⟨Δ,p1,p2⟩:=r.bG;delta nP;left;refine⟨rfl,?_⟩;left;refine af bq z p1 rfl rfl ?_;left;refine⟨rfl,?_⟩;left;refine af bq z p1 rfl rfl ?_;left;refine HV ro nofun z p1 ?_;left;exact HG ro nofun z r hi q
def Kw (ro:Ro K R)(hk:5<=k)(z:Sep O H)(r:aO (aP R b ⟨h,t,l,w,s,m⟩) (aP R b ⟨h,t,l+i,w,s,m⟩) O Γ')(hi:0<=l+i/\l+i<=1000000000)(q:∀ H',Sep Γ' H'->Q wp H'):ae tab R k 78 [wf b,wn "left",wl i] H Q E:=by
 obtain⟨Δ,p1,p2⟩:=r.bG;delta nP;left;refine⟨rfl,?_⟩;left;refine af bq z p1 rfl rfl ?_;left;refine⟨rfl,?_⟩;left;refine af bq z p1 rfl rfl ?_;left;refine Fi ro nofun z p1 ?_;left;exact IW ro nofun z r hi q
abbrev fin (l:Int):Int:=if l=0 then 1 else 0
def pT (ro:Ro K R)(hk:6<=k)(z:Sep O H)(r:aO (aP R b ⟨h,t,l,w,s,m⟩) (aP R b ⟨h,t,l+ -i,w,s,m⟩) O Γ')(hi:0<=l+ -i/\l+ -i<=1000000000)(q:∀ H',Sep Γ' H'->Q (wl (fin (l+ -i))) H'):ae tab R k 80 [wf b,wl i] H Q E:=by
 obtain⟨Δ,p1,p2⟩:=r.bG;delta ju;right;refine Kw ro nofun z r hi (λH1 z1=>?_);right;refine af bq z1 p2 rfl rfl ?_;left;refine Fi ro nofun z1 p2 ?_;right;refine aG (λe=>?_) (λe=>?_)
 .right;have q:=q H1 z1;rw[fin,if_pos e]at q;exact q
 .right;have q:=q H1 z1;rw[fin,if_neg e]at q;exact q
def sZ (hk:4<=k)(z:Sep O H)(r:aO (aV R a cs ws) (aV R a (cs.set j.toNat (gt cs i)) ws) O Γ')(q0:aj ws "look" i=true->aj ws "put" j=true->∀ H',Sep Γ' H'->Q wp H')
  (q1:aj ws "look" i=false->∀ e H',Sep (j9 (R.cad 3) [("deed",wn "look"),("cell",wl i)] e false::O) H'->E e H')
  (q2:aj ws "look" i=true->aj ws "put" j=false->∀ e H',Sep (j9 (R.cad 3) [("deed",wn "put"),("cell",wl j)] e false::O) H'->E e H'):ae tab R k 82 [wf a,wl i,wl j] H Q E:=by
 obtain⟨Δ,p1,p2⟩:=r.bG;have ok:=cM z p1;delta x8;right;refine af bj z p1 rfl rfl ?_;left;refine dG nofun z p1 (λhm=>?_) q1;right;refine af bj z p1 rfl rfl ?_;left;refine kB nofun z r (yV ok.2.2.2) (λhp H1 z1=>?_) (q2 hm);right;exact q0 hm hp H1 z1
def nj (hk:3<=k)(z:Sep O H)(p:ag (aV R a cs ws) O Δ)(q0:aj ws "put" i=true->Q wp H)
  (q1:aj ws "put" i=false->∀ e H',Sep (j9 (R.cad 3) [("deed",wn "put"),("cell",wl i)] e false::O) H'->E e H'):ae tab R k 81 [wf a,wl i] H Q E:=by
 delta m9;right;refine af bj z p rfl rfl ?_;left;refine Em nofun z p ?_;right;refine bT (λhm=>?_) (λhm=>?_)
 .right;exact q0 hm
 .right;intro x hx;refine fk nofun (z.new hx) (λd H hs=>?_);right;exact eD hs (by ac_rfl) rfl (λH hs=>q1 hm x H (jD hs))
def rL {Γf:Int->Int->List av}(hk:4<=k)(z:Sep O H)(r:∀ v w:Int,∃ Γ1,aO (aV R a cs ws) (aV R a (cs.set i.toNat v) ws) O Γ1/\aO (aV R a (cs.set i.toNat v) ws) (aV R a ((cs.set i.toNat v).set j.toNat w) ws) Γ1 (Γf v w)) (q0:aj ws "look" i=true->aj ws "look" j=true->aj ws "put" i=true->aj ws "put" j=true->∀ H',Sep (Γf (gt cs j) (gt cs i)) H'->Q wp H')
  (q1:aj ws "look" i=false->∀ e H',Sep (j9 (R.cad 3) [("deed",wn "look"),("cell",wl i)] e false::O) H'->E e H')
  (q2:aj ws "look" i=true->aj ws "look" j=false->∀ e H',Sep (j9 (R.cad 3) [("deed",wn "look"),("cell",wl j)] e false::O) H'->E e H')
  (q3:aj ws "look" i=true->aj ws "look" j=true->aj ws "put" i=false->∀ e H',Sep (j9 (R.cad 3) [("deed",wn "put"),("cell",wl i)] e false::O) H'->E e H')
  (q4:aj ws "look" i=true->aj ws "look" j=true->aj ws "put" i=true->aj ws "put" j=false->∀ e H',Sep (j9 (R.cad 3) [("deed",wn "put"),("cell",wl j)] e false::O) H'->E e H'):ae tab R k 83 [wf a,wl i,wl j] H Q E:=by
 obtain⟨Γ1,r1,r2⟩:=r (gt cs j) (gt cs i);obtain⟨Δ,p1,p2⟩:=r1.bG;obtain⟨Δ2,p3,p4⟩:=r2.bG;have ok:=cM z p1;delta lB;right;refine af bj z p1 rfl rfl ?_;left;refine dG nofun z p1 (λh1=>?_) q1;right;refine af bj z p1 rfl rfl ?_;left;refine dG nofun z p1 (λh2=>?_) (q2 h1);right;refine nj nofun z p1 (λh3=>?_) (q3 h1 h2);right;refine nj nofun z p1 (λh4=>?_) (q4 h1 h2 h3);right;refine af bj z p1 rfl rfl ?_;left;refine kB nofun z r1 (yV ok.2.2.2) (λhp H1 z1=>?_) (λhp=>absurd (h3.symm.trans hp) (by decide));right;refine af bj z1 p3 rfl rfl ?_;left;refine kB nofun z1 r2 (yV ok.2.2.2) (λhp H2 z2=>?_) (λhp=>absurd (h4.symm.trans hp) (by decide));right;exact q0 h1 h2 h3 h4 H2 z2
abbrev tB (R:Rt)(b a:Addr)(x:Bx)(cs:List Int)(ws:List Str)(O:List av)(Q:VK)(E:XK):Out->Prop
 | .on r x' cs'=>∀ H',Sep (aP R b x'::aV R a cs' ws::O) H'->Q (wl r) H'
 | .no d c=>∀ e H',Sep (j9 (R.cad 3) [("deed",wn d),("cell",wl c)] e false::aP R b x::aV R a cs ws::O) H'->E e H'
abbrev hm (cs:List Int)(ws:List Str)(i j:Int)(f:List Int->Out):Out:=
 if aj ws "look" i=true then(if aj ws "put" j=true then f (cs.set j.toNat (gt cs i)) else .no "put" j) else .no "look" i
abbrev fZ (x:Bx)(cs:List Int)(ws:List Str):Out:=
 if x.l=0 then .on 1 x cs else if x.t<=x.h then hm cs ws x.h x.t λcs'=>.on (fin (x.l+ -1)) ⟨x.h+1,x.t+1,x.l+ -1,x.w,x.s,x.m⟩ cs'
 else hm cs ws (x.h+x.l-1) (x.t+x.l-1) λcs'=>.on (fin (x.l+ -1)) ⟨x.h,x.t,x.l+ -1,x.w,x.s,x.m⟩ cs'
abbrev xm (cs:List Int)(ws:List Str)(i j:Int)(f:List Int->Out):Out:=
 if aj ws "look" i=true then(if aj ws "look" j=true then(if aj ws "put" i=true then(if aj ws "put" j=true then f ((cs.set i.toNat (gt cs j)).set j.toNat (gt cs i)) else .no "put" j) else .no "put" i) else .no "look" j) else .no "look" i
abbrev lH (x:Bx)(cs:List Int)(ws:List Str):Out:=
 if x.l=0 then .on 1 x cs else if x.l=1 then .on 1 ⟨x.h,x.t,0,x.w,x.s,x.m⟩ cs else xm cs ws x.h (x.h+x.l-1) λcs'=>.on (fin (x.l+ -2)) ⟨x.h+1,x.t,x.l+ -2,x.w,x.s,x.m⟩ cs'
def xu (ro:Ro K R)(hk:7<=k)(z:Sep (aP R b x::aV R a cs ws::O) H)(q:tB R b a x cs ws O Q E (fZ x cs ws)):ae tab R k 92 [v,wf b,wf a] H Q E:=by
 have ok:=lD z .e;have sk:=cM z .k1;obtain⟨h,t,l,w,s,m⟩:=x;obtain⟨⟨o1,o2⟩,⟨o3,o4⟩,⟨o5,o6⟩,o7⟩:=ok;dsimp only at o1 o2 o3 o4 o5 o6;obtain⟨s1,s2,s3,s4⟩:=sk;delta gO;walk_at "ws";refine aG (λe=>?_) (λe=>?_)
 .walk_at "ws";rw[fZ,if_pos e]at q;exact q H z
 rw[fZ,if_neg e]at q;walk_at "ws";refine aD (λe2=>?_) (λe2=>?_)
 .rw[if_pos e2]at q;walk_at "ws";refine sZ nofun z .k1 (λh1 h2 H1 z1=>?_) (λh1=>?_) (λh1 h2=>?_)
  .have g1:=ar h1;have g2:=ar h2;rw[hm,if_pos h1,if_pos h2]at q;walk_at "ws";refine Fp ro nofun z1 .e nofun (λH2 z2=>?_);walk_at "ws";refine Jx ro nofun z2 .e nofun (λH3 z3=>?_);walk_at "ws";exact pT ro nofun z3 .e nofun (λH4 z4=>q H4 z4)
  .rw[hm,if_neg (by rw[h1];decide)]at q;exact q
  .rw[hm,if_pos h1,if_neg (by rw[h2];decide)]at q;exact q
 .rw[if_neg e2]at q;walk_at "ws";refine sZ nofun z .k1 (λh1 h2 H1 z1=>?_) (λh1=>?_) (λh1 h2=>?_)
  .rw[hm,if_pos h1,if_pos h2]at q;walk_at "ws";exact pT ro nofun z1 .e nofun (λH4 z4=>q H4 z4)
  .rw[hm,if_neg (by rw[h1];decide)]at q;exact q
  .rw[hm,if_pos h1,if_neg (by rw[h2];decide)]at q;exact q
def AX (ro:Ro K R)(hk:7<=k)(z:Sep (aP R b x::aV R a cs ws::O) H)(q:tB R b a x cs ws O Q E (lH x cs ws)):ae tab R k 94 [v,wf b,wf a] H Q E:=by
 have ok:=lD z .e;have sk:=cM z .k1;obtain⟨h,t,l,w,s,m⟩:=x;obtain⟨⟨o1,o2⟩,⟨o3,o4⟩,⟨o5,o6⟩,o7⟩:=ok;dsimp only at o1 o2 o3 o4 o5 o6;obtain⟨s1,s2,s3,s4⟩:=sk;delta jv;walk_at "ws";refine aG (λe=>?_) (λe=>?_)
 .walk_at "ws";rw[lH,if_pos e]at q;exact q H z
 rw[lH,if_neg e]at q;walk_at "ws";refine aG (λe2=>?_) (λe2=>?_)
 .rw[if_pos e2]at q;walk_at "ws";refine pT ro nofun z .e nofun (λH4 z4=>?_);subst e2;exact q H4 z4
 .rw[if_neg e2]at q;walk_at "ws";refine rL (Γf:=λv w'=>aP R b ⟨h,t,l,w,s,m⟩::aV R a ((cs.set h.toNat v).set (h+l-1).toNat w') ws::O) nofun z (λv w=>⟨_,.t .e,.t .e⟩) (λh1 h2 h3 h4 H1 z1=>?_) (λh1=>?_) (λh1 h2=>?_) (λh1 h2 h3=>?_) (λh1 h2 h3 h4=>?_)
  .have g1:=ar h1;rw[xm,if_pos h1,if_pos h2,if_pos h3,if_pos h4]at q;walk_at "ws";refine Fp ro nofun z1 .e nofun (λH2 z2=>?_);walk_at "ws";exact pT ro nofun z2 .e nofun (λH4 z4=>q H4 z4)
  .rw[xm,if_neg (by rw[h1];decide)]at q;exact q
  .rw[xm,if_pos h1,if_neg (by rw[h2];decide)]at q;exact q
  .rw[xm,if_pos h1,if_pos h2,if_neg (by rw[h3];decide)]at q;exact q
  .rw[xm,if_pos h1,if_pos h2,if_pos h3,if_neg (by rw[h4];decide)]at q;exact q
end
section
variable {b a:Addr}{h t l w s m i j:Int}{cs:List Int}{ws:List Str}
def Eg (ro:Ro K R)(hk:6<=k)(z:Sep O H)(r:aO (aP R b ⟨h,t,l,w,s,m⟩) (aP R b ⟨h+w,t,l,w,s,m⟩) O Γ')(hi: -1000000000<=h+w/\h+w<=1000000000)(q:∀ H',Sep Γ' H'->Q wp H'):ae tab R k 79 [wf b,wn "here"] H Q E:=by
 obtain⟨Δ,p1,p2⟩:=r.bG;delta eJ;left;refine⟨rfl,?_⟩;left;refine⟨rfl,?_⟩;left;refine af bq z p1 rfl rfl ?_;left;refine FW ro nofun z p1 ?_;left;exact Fp ro nofun z r hi q
def EW (ro:Ro K R)(hk:6<=k)(z:Sep O H)(r:aO (aP R b ⟨h,t,l,w,s,m⟩) (aP R b ⟨h,t+w,l,w,s,m⟩) O Γ')(hi: -1000000000<=t+w/\t+w<=1000000000)(q:∀ H',Sep Γ' H'->Q wp H'):ae tab R k 79 [wf b,wn "there"] H Q E:=by
 obtain⟨Δ,p1,p2⟩:=r.bG;delta eJ;left;refine⟨rfl,?_⟩;left;refine⟨rfl,?_⟩;left;refine af bq z p1 rfl rfl ?_;left;refine FW ro nofun z p1 ?_;left;exact Jx ro nofun z r hi q
abbrev lq (x:Bx)(cs:List Int)(ws:List Str):Out:=
 if x.l=0 then .on 1 x cs else hm cs ws x.h x.t λcs'=>.on (fin (x.l+ -1)) ⟨x.h+x.w,x.t+x.w,x.l+ -1,x.w,x.s,x.m⟩ cs'
abbrev kH (x:Bx)(cs:List Int)(ws:List Str):Out:=
 if x.l=0 then .on 1 x cs else if aj ws "put" x.t=true then .on (fin (x.l+ -1)) ⟨x.h,x.t+x.w,x.l+ -1,x.w,x.s,x.m⟩ (cs.set x.t.toNat x.s) else .no "put" x.t
abbrev lO (x:Bx)(cs:List Int)(ws:List Str):Out:=
 if x.l=0 then .on 1 ⟨x.h,x.t,x.l,x.w,x.s,0⟩ cs else if aj ws "look" x.h=true then
  (if gt cs x.h=x.s then .on 1 ⟨x.h,x.t,x.l,x.w,x.s,1⟩ cs else .on (fin (x.l+ -1)) ⟨x.h+x.w,x.t,x.l+ -1,x.w,x.s,0⟩ cs) else .no "look" x.h
abbrev gj (x:Bx)(cs:List Int)(ws:List Str):Out:=
 if x.l=0 then .on 1 ⟨x.h,x.t,x.l,x.w,x.s,1⟩ cs else if aj ws "look" x.h=true then(if aj ws "look" x.t=true then
  (if gt cs x.h=gt cs x.t then .on (fin (x.l+ -1)) ⟨x.h+x.w,x.t+x.w,x.l+ -1,x.w,x.s,1⟩ cs else .on 1 ⟨x.h,x.t,x.l,x.w,x.s,0⟩ cs) else .no "look" x.t) else .no "look" x.h
def nt {c:Bool}(h:c=false):¬ c=true:=by rw[h];decide
def AG (ro:Ro K R)(hk:8<=k)(z:Sep (aP R b x::aV R a cs ws::O) H)(q:tB R b a x cs ws O Q E (lq x cs ws)):ae tab R k 84 [v,wf b,wf a] H Q E:=by
 have ok:=lD z .e;have sk:=cM z .k1;obtain⟨h,t,l,w,s,m⟩:=x;obtain⟨⟨o1,o2⟩,⟨o3,o4⟩,⟨o5,o6⟩,o7,o8⟩:=ok;dsimp only at o1 o2 o3 o4 o5 o6 o7;obtain⟨s1,s2,s3,s4⟩:=sk;delta i9;walk_at "ws";refine aG (λe=>?_) (λe=>?_)
 .walk_at "ws";rw[lq,if_pos e]at q;exact q H z
 rw[lq,if_neg e]at q;walk_at "ws";refine sZ nofun z .k1 (λh1 h2 H1 z1=>?_) (λh1=>?_) (λh1 h2=>?_)
 .have g1:=ar h1;have g2:=ar h2;rw[hm,if_pos h1,if_pos h2]at q;walk_at "ws";refine Eg ro nofun z1 .e nofun (λH2 z2=>?_);walk_at "ws";refine EW ro nofun z2 .e nofun (λH3 z3=>?_);walk_at "ws";exact pT ro nofun z3 .e nofun (λH4 z4=>q H4 z4)
 .rw[hm,if_neg (nt h1)]at q;exact q
 .rw[hm,if_pos h1,if_neg (nt h2)]at q;exact q
def Ca (ro:Ro K R)(hk:8<=k)(z:Sep (aP R b x::aV R a cs ws::O) H)(q:tB R b a x cs ws O Q E (kH x cs ws)):ae tab R k 86 [v,wf b,wf a] H Q E:=by
 have ok:=lD z .e;have sk:=cM z .k1;obtain⟨h,t,l,w,s,m⟩:=x;obtain⟨⟨o1,o2⟩,⟨o3,o4⟩,⟨o5,o6⟩,o7,o8,o9⟩:=ok;dsimp only at o1 o2 o3 o4 o5 o6 o7 o8;obtain⟨s1,s2,s3,s4⟩:=sk;delta jm;walk_at "ws";refine aG (λe=>?_) (λe=>?_)
 .walk_at "ws";rw[kH,if_pos e]at q;exact q H z
 rw[kH,if_neg e]at q;walk_at "ws";refine kB nofun z .k1 o8 (λh2 H1 z1=>?_) (λh2=>?_)
 .have g2:=ar h2;rw[if_pos h2]at q;walk_at "ws";refine EW ro nofun z1 .e nofun (λH3 z3=>?_);walk_at "ws";exact pT ro nofun z3 .e nofun (λH4 z4=>q H4 z4)
 .rw[if_neg (nt h2)]at q;exact q
def B8 (ro:Ro K R)(hk:8<=k)(z:Sep (aP R b x::aV R a cs ws::O) H)(q:tB R b a x cs ws O Q E (lO x cs ws)):ae tab R k 88 [v,wf b,wf a] H Q E:=by
 have ok:=lD z .e;have sk:=cM z .k1;obtain⟨h,t,l,w,s,m⟩:=x;obtain⟨⟨o1,o2⟩,⟨o3,o4⟩,⟨o5,o6⟩,o7,o8⟩:=ok;dsimp only at o1 o2 o3 o4 o5 o6 o7;obtain⟨s1,s2,s3,s4⟩:=sk;delta jC;walk_at "ws";refine aG (λe=>?_) (λe=>?_)
 .rw[lO,if_pos e]at q;walk_at "ws";rename_i H1 z1;exact q _ z1
 rw[lO,if_neg e]at q;walk_at "ws";refine dG nofun z .k1 (λh1=>?_) (λh1=>?_)
 .have g1:=ar h1;rw[if_pos h1]at q;walk_at "ws";refine aG (λe=>?_) (λe=>?_)
  .rw[if_pos e]at q;walk_at "ws";rename_i H1 z1;exact q _ z1
  .rw[if_neg e]at q;walk_at "ws";rename_i H1 z1;refine Eg ro nofun z1 .e nofun (λH3 z3=>?_);walk_at "ws";exact pT ro nofun z3 .e nofun (λH4 z4=>q H4 z4)
 .rw[if_neg (nt h1)]at q;exact q
def zT (ro:Ro K R)(hk:8<=k)(z:Sep (aP R b x::aV R a cs ws::O) H)(q:tB R b a x cs ws O Q E (gj x cs ws)):ae tab R k 90 [v,wf b,wf a] H Q E:=by
 have ok:=lD z .e;have sk:=cM z .k1;obtain⟨h,t,l,w,s,m⟩:=x;obtain⟨⟨o1,o2⟩,⟨o3,o4⟩,⟨o5,o6⟩,o7,o8⟩:=ok;dsimp only at o1 o2 o3 o4 o5 o6 o7;obtain⟨s1,s2,s3,s4⟩:=sk;delta hW;walk_at "ws";refine aG (λe=>?_) (λe=>?_)
 .rw[gj,if_pos e]at q;walk_at "ws";rename_i H1 z1;exact q _ z1
 rw[gj,if_neg e]at q;walk_at "ws";refine dG nofun z .k1 (λh1=>?_) (λh1=>?_)
 .have g1:=ar h1;rw[if_pos h1]at q;walk_at "ws";refine dG nofun z .k1 (λh2=>?_) (λh2=>?_)
  .have g2:=ar h2;rw[if_pos h2]at q;walk_at "ws";refine aG (λe=>?_) (λe=>?_)
   .rw[if_pos e]at q;walk_at "ws";rename_i H1 z1;refine Eg ro nofun z1 .e nofun (λH2 z2=>?_);walk_at "ws";refine EW ro nofun z2 .e nofun (λH3 z3=>?_);walk_at "ws";exact pT ro nofun z3 .e nofun (λH4 z4=>q H4 z4)
   .rw[if_neg e]at q;walk_at "ws";rename_i H1 z1;exact q _ z1
  .rw[if_neg (nt h2)]at q;exact q
 .rw[if_neg (nt h1)]at q;exact q
end
abbrev b2i (c:Bool):Int:=match c with
 |true=>1
 |false=>0
def nV {G:Gx}{c:Bool}(q:Q (wl (b2i c)) H):lS G .int [.bl c] H Q:=by
 unfold lS;refine .inr ⟨c,rfl,?_⟩;cases c<;>exact q
section
variable {cs:List Int}{f g:Nat->Int}{i v:Int}
end
abbrev dd (R:Rt)(d:Addr)(c:Nat):av:=bx λdx:Addr=>[pt d (ww (R.cad c) dx []),pt dx (.own d)]
def K3 {c:Nat}(s:Sep (pt d (ww (R.cad c) dx [])::pt dx (.own d)::O) H):Sep (dd R d c::O) H:=gQ dx s
def IX {c:Nat}:Ob R (dd R d c) d c []:=by
 rintro H D ⟨dx,D1,D2,_,_,_,⟨_,h⟩,_⟩;exact⟨dx,_,h,rfl⟩
def uj {p:Addr}{cs:List Int}(h1:H l=some (wr (cs.map wl)))(h2:H p=some (wr (cs.map wl))):l9 R.K H 2 (wf l) (wf p) true:=
 xG (n:=0) h1 h2 λx hx=>by
  obtain⟨z,_,rfl⟩:=List.mem_map.mp hx;exact⟨"int",rfl⟩
abbrev ao (d:Addr)(x:Bx):av:=pt d (.dK (wY.zip (x.ls.map wl)))
section
variable {d:Addr}{h t l w s m i:Int}{P:Hp->Prop}
def Ko {K:W.Frag}(z:Sep O H)(p:ag (ao d ⟨h,t,l,w,s,m⟩) O Δ)(q:Q (wl h) H):qF K (wf d) (wn "here") H Q:=nR (k:=.inr "here") (z.get p) rfl q
def J4 {K:W.Frag}(z:Sep O H)(p:ag (ao d ⟨h,t,l,w,s,m⟩) O Δ)(q:Q (wl t) H):qF K (wf d) (wn "there") H Q:=nR (k:=.inr "there") (z.get p) rfl q
def K7 {K:W.Frag}(z:Sep O H)(p:ag (ao d ⟨h,t,l,w,s,m⟩) O Δ)(q:Q (wl l) H):qF K (wf d) (wn "left") H Q:=nR (k:=.inr "left") (z.get p) rfl q
def K6 {K:W.Frag}(z:Sep O H)(p:ag (ao d ⟨h,t,l,w,s,m⟩) O Δ)(q:Q (wl w) H):qF K (wf d) (wn "way") H Q:=nR (k:=.inr "way") (z.get p) rfl q
def Kr {K:W.Frag}(z:Sep O H)(p:ag (ao d ⟨h,t,l,w,s,m⟩) O Δ)(q:Q (wl s) H):qF K (wf d) (wn "sign") H Q:=nR (k:=.inr "sign") (z.get p) rfl q
def K1 {K:W.Frag}(z:Sep O H)(p:ag (ao d ⟨h,t,l,w,s,m⟩) O Δ)(q:Q (wl m) H):qF K (wf d) (wn "met") H Q:=nR (k:=.inr "met") (z.get p) rfl q
def qC {y:Bx}{j:Nat}{nm:Str}(z:Sep O H)(r:aO (ao d x) (ao d y) O Γ')(hj:pJ[j]? =some nm)(hx:x.ls.set j i=y.ls)(q:∀ H',Sep Γ' H'->P H'):gF (wf d) (wn nm) (wl i) H P:=by
 refine ve (k:=.inr nm) z r (pc rfl) ?_ q;rw[<-hx];exact uT rfl hj
def J9 (z:Sep O H)(r:aO (ao d ⟨h,t,l,w,s,m⟩) (ao d ⟨i,t,l,w,s,m⟩) O Γ')(q:∀ H',Sep Γ' H'->P H'):gF (wf d) (wn "here") (wl i) H P:=qC (j:=0) z r rfl rfl q
def Kn (z:Sep O H)(r:aO (ao d ⟨h,t,l,w,s,m⟩) (ao d ⟨h,i,l,w,s,m⟩) O Γ')(q:∀ H',Sep Γ' H'->P H'):gF (wf d) (wn "there") (wl i) H P:=qC (j:=1) z r rfl rfl q
def Ks (z:Sep O H)(r:aO (ao d ⟨h,t,l,w,s,m⟩) (ao d ⟨h,t,i,w,s,m⟩) O Γ')(q:∀ H',Sep Γ' H'->P H'):gF (wf d) (wn "left") (wl i) H P:=qC (j:=2) z r rfl rfl q
def Lj (z:Sep O H)(r:aO (ao d ⟨h,t,l,w,s,m⟩) (ao d ⟨h,t,l,w,s,i⟩) O Γ')(q:∀ H',Sep Γ' H'->P H'):gF (wf d) (wn "met") (wl i) H P:=qC (j:=5) z r rfl rfl q
end
local macro_rules| `(tactic|walk_at "sx")=>`(tactic|((with_reducible (first|refine' Ko ?s ?p ?_|refine' J4 ?s ?p ?_|refine' K7 ?s ?p ?_|refine' K6 ?s ?p ?_|refine' Kr ?s ?p ?_|refine' K1 ?s ?p ?_));(case s=>with_reducible assumption);(case p=>symm)))
local macro_rules| `(tactic|walk_at "sy")=>`(tactic|((with_reducible (first|refine' J9 ?s ?p (λH hs=>?_)|refine' Kn ?s ?p (λH hs=>?_)|refine' Ks ?s ?p (λH hs=>?_)|refine' ds_w ?s ?p (λH hs=>?_)|refine' ds_s ?s ?p (λH hs=>?_)|refine' Lj ?s ?p (λH hs=>?_)));(case s=>with_reducible assumption);(case p=>ac_rfl)))
local macro_rules| `(tactic|walk_at "wd")=>`(tactic|(walk_at "w";repeat(first|(walk_at "sx";walk_at "w")|(walk_at "sy";walk_at "w")|(walk_at "st";walk_at "w")|(refine nV ?_;walk_at "w"))))
def x9 {lv:Addr}{d:Str}(hk:1<=k)(z:Sep O H)(p:ag (pt lv (wr (ws.map wn))) O Δ)(q:Q (.bl (aj ws d i)) H):ae tab R k 101 [wf lv,wn d,wl i] H Q E:=by
 have e0:H lv=some (wr (ws.map wn)):=z.get p;have no:(i<0\/¬ i<ws.length)->aj ws d i=false:=λh=>by
  unfold aj;rcases h with h|h
  .rw[decide_eq_false (by omega:¬ 0<=i),Bool.false_and]
  .rw[decide_eq_false h,Bool.false_and,Bool.and_false]
 delta lp;left;refine aD (λh0=>?_) (λh0=>?_)
 .right;rw[no (.inl h0)]at q;exact q
 left;refine ip e0 ?_;left;rw[ce];refine aD (λh1=>?_) (λh1=>?_)
 .right;rw[no (.inr nofun)]at q;exact q
 have h2:i.toNat<ws.length:=by omega
 have e1:ws[i.toNat]? =some ws[i.toNat]:=li h2;generalize ws[i.toNat]=w at e1;have e2:(ws.map wn)[i.toNat]? =some (wn w):=by rw[io,e1];rfl
 have e3:aj ws d i=(if w="look" then d =="look" else w =="open"):=by
  unfold aj;rw[e1,decide_eq_true (by omega:0<=i),decide_eq_true (by omega:i<ws.length)]
  rfl
 left;refine aJ e0 (aA nofun e2) ?_;right;refine bT (λhw=>?_) (λhw=>?_)
 .have hw:w="open":=by simpa[ef] using hw
  subst hw;rw[e3,if_neg (by decide+kernel)]at q;right;exact q
 .have hw:¬ w="open":=by simpa[ef] using hw
  left;refine aJ e0 (aA nofun e2) ?_;right;refine bT (λhl=>?_) (λhl=>?_)
  .have hl:w="look":=by simpa[ef] using hl
   rw[e3,if_pos hl]at q;right;exact q
  .have hl:¬ w="look":=by simpa[ef] using hl
   have e4:(w ==("open":Str))=false:=by simpa using hw
   rw[e3,if_neg hl,e4]at q;right;exact q
inductive Wd where
 |copy|fill|seek|mtch|shift|turn
abbrev Wd.s:Wd->Str
 | .copy=>"copy"
 | .fill=>"fill"
 | .seek=>"seek"
 | .mtch=>"match"
 | .shift=>"shift"
 | .turn=>"turn"
abbrev CP (h t l:Int):Wd->List Int
 | .copy=>[h]
 | .fill=>[]
 | .seek=>[h]
 | .mtch=>[h,t]
 | .shift=>if t<=h then[h+0] else[h+(l-1)]
 | .turn=>if l=1 then[] else[h,h+l-1]
abbrev CK (h t l:Int):Wd->List Int
 | .copy=>[t]
 | .fill=>[t]
 | .seek=>[]
 | .mtch=>[]
 | .shift=>if t<=h then[t+0] else[t+(l-1)]
 | .turn=>if l=1 then[] else[h,h+l-1]
abbrev mR (wd:Wd)(x:Bx):List Int:=if x.l=0 then[] else CP x.h x.t x.l wd
abbrev vA (wd:Wd)(x:Bx):List Int:=if x.l=0 then[] else CK x.h x.t x.l wd
def L7 {v0 v1:V}{c:Bool}:nZ [v0,v1] (b2i c)=some (if c=true then v1 else v0):=by cases c<;>rfl
abbrev aY (ws:List Str)(d:Str):List Int->Option (Str×Int)
 | []=>none
 |c::r=>if aj ws d c=true then aY ws d r else some (d,c)
abbrev bF (ws:List Str)(ls ps:List Int):Option (Str×Int):=match aY ws "look" ls with
 |some r=>some r
 |none=>aY ws "put" ps
def kZ {ws:List Str}{d:Str}:∀ {l:List Int},(∀ c ∈ l,aj ws d c=true)->aY ws d l=none
 | [],_=>rfl
 |c::r,h=>by
  unfold aY;rw[if_pos (h c mo)];exact kZ λc hc=>h c (dL _ hc)
def pG {ws:List Str}{d:Str}{c:Int}:∀ {l:List Int}{j:Nat},(∀ i x,i<j->l[i]? =some x->aj ws d x=true)->l[j]? =some c->aj ws d c=false->aY ws d l=some (d,c)
 | [],_,_,h,_=>by simp at h
 |a::r,0,_,h,hc=>by
  have:a=c:=by simpa using h
  subst this;unfold aY;rw[if_neg (nt hc)]
 |a::r,j+1,hb,h,hc=>by
  unfold aY;rw[if_pos (hb 0 a (Nat.succ_pos _) rfl)];exact pG (λi x hi hx=>hb (i+1) x (Nat.succ_lt_succ hi) (by simpa using hx)) (by simpa using h) hc
abbrev cT:Wd->Bx->List Int->List Str->Out
 | .copy=>lq
 | .fill=>kH
 | .seek=>lO
 | .mtch=>gj
 | .shift=>fZ
 | .turn=>lH
abbrev je (d p:Addr)(O:List av)(Q:VK):Out->Prop
 | .on r x' cs'=>∀ H',Sep (ao d x'::pt p (wr (cs'.map wl))::O) H'->Q (wl r) H'
 | .no _ _=>True
def aF {d:Str}{r:List Int}(h:aY ws d (c::r)=none):aj ws d c=true/\aY ws d r=none:=by
 unfold aY at h
 by_cases e:aj ws d c=true
 .rw[if_pos e]at h;exact⟨e,h⟩
 .rw[if_neg e]at h;cases h
def gX {ls ps:List Int}(h:bF ws ls ps=none):aY ws "look" ls=none/\aY ws "put" ps=none:=by
 unfold bF at h
 split at h
 .cases h
 .rename_i e;exact⟨e,h⟩
def mK {l:Int}:b2i (ef (wl l) (wl 0))=fin l:=by
 show b2i (l ==0)=_;unfold fin
 by_cases e:l=0
 .rw[if_pos e,e];rfl
 .rw[if_neg e,show(l ==0)=false by simpa using e];rfl
def cJ {cs:List Int}{v:Int}:(cs.map wl).set n (wl v)=(cs.set n v).map wl:=by rw[List.map_set]
def yP {l:Int}:b2i (ef (wl l) (wl 1))=fin (l+ -1):=by
 show b2i (l ==1)=_;unfold fin
 by_cases e:l=1
 .rw[if_pos nofun,e];rfl
 .rw[if_neg nofun,show(l ==1)=false by simpa using e];rfl
def As {l:Int}:l-1=l+ -1:=by omega
def Lo {l:Int}:l-2=l+ -2:=by omega
def DX {j:Int}(h:i=j):ef (wl i) (wl j)=true:=by subst h;show(i ==i)=true;simp
def DK {j:Int}(h:i≠j):ef (wl i) (wl j)=false:=by show(i ==j)=false;simpa using h
variable {wd:Wd}
section
variable {d p:Addr}{h t l w s m:Int}{cs:List Int}{ws:List Str}
def rC (wd:Wd)(hw:wd=.seek\/wd=.mtch)(hk:1<=k)(hl:cs.length=ws.length)(hb:bF ws (mR wd x) (vA wd x)=none)(z:Sep (ao d x::pt p (wr (cs.map wl))::O) H)
  (q:je d p O Q (cT wd x cs ws)):ae tab R k 107 [wn wd.s,wf d,wf p] H Q E:=by
 obtain⟨h,t,l,w,s,m⟩:=x;obtain⟨b1,b2⟩:=gX hb;have f1:b2i (ef (wn Wd.seek.s) (wn "match"))=0:=by decide+kernel
 have f2:b2i (ef (wn Wd.mtch.s) (wn "match"))=1:=by decide+kernel
 have f3:b2i (ef (wn Wd.seek.s) (wn "seek"))=1:=by decide+kernel
 have f4:b2i (ef (wn Wd.mtch.s) (wn "seek"))=0:=by decide+kernel
 have f5:ef (wn Wd.seek.s) (wn "seek")=true:=by decide+kernel
 have f6:ef (wn Wd.mtch.s) (wn "seek")=false:=by decide+kernel
 delta fP;rcases hw with rfl|rfl
 .have q:je d p O Q (lO ⟨h,t,l,w,s,m⟩ cs ws):=q;walk_at "wd";refine aG (λe=>?_) (λe=>?_)
  .rw[lO,if_pos e]at q;walk_at "wd";rename_i H1 z1;rw[f1]at z1;exact q _ z1
  rw[lO,if_neg e]at q;have b1:aY ws "look" [h]=none:=(congrArg _ (if_neg e)).symm.trans b1;obtain⟨m1,_⟩:=aF b1;obtain⟨g1,g2⟩:=ar m1;rw[if_pos m1]at q;walk_at "wd"
  repeat walk_at "sc"
  refine aJ (by grind) (iy g1 nofun) ?_;walk_at "wd";rw[f5]
  by_cases e2:gt cs h=s
  .rw[if_pos e2]at q;rw[DX e2];walk_at "wd";rename_i H1 z1;rw[f3]at z1;exact q _ z1
  .rw[if_neg e2]at q;rw[DK e2];walk_at "wd"
   repeat walk_at "sc"
   walk_at "wd";rename_i H1 z1 H2 z2 H3 z3;rw[f1,As]at z3;rw[yP];exact q _ z3
 .have q:je d p O Q (gj ⟨h,t,l,w,s,m⟩ cs ws):=q;walk_at "wd";refine aG (λe=>?_) (λe=>?_)
  .rw[gj,if_pos e]at q;walk_at "wd";rename_i H1 z1;rw[f2]at z1;exact q _ z1
  rw[gj,if_neg e]at q;have b1:aY ws "look" [h,t]=none:=(congrArg _ (if_neg e)).symm.trans b1;obtain⟨m1,b3⟩:=aF b1;obtain⟨m2,_⟩:=aF b3;obtain⟨g1,g2⟩:=ar m1;obtain⟨g3,g4⟩:=ar m2;rw[if_pos m1,if_pos m2]at q;walk_at "wd"
  repeat walk_at "sc"
  refine aJ (by grind) (iy g3 nofun) ?_;walk_at "wd";refine aJ (by grind) (iy g1 nofun) ?_;walk_at "wd";rw[f6]
  by_cases e2:gt cs h=gt cs t
  .rw[if_pos e2]at q;rw[DX e2];walk_at "wd"
   repeat walk_at "sc"
   walk_at "wd";rename_i H1 z1 H2 z2 H3 z3 H4 z4;rw[f2,As]at z4;rw[yP];exact q _ z4
  .rw[if_neg e2]at q;rw[DK e2];walk_at "wd";rename_i H1 z1;rw[f4]at z1;exact q _ z1
def C4 (wd:Wd)(hk:2<=k)(hx:0<=x.l)(hl:cs.length=ws.length)(hb:bF ws (mR wd x) (vA wd x)=none)(z:Sep (ao d x::pt p (wr (cs.map wl))::O) H)
  (q:je d p O Q (cT wd x cs ws)):ae tab R k 106 [wn wd.s,wf d,wf p] H Q E:=by
 delta gW;obtain⟨h,t,l,w,s,m⟩:=x;obtain⟨b1,b2⟩:=gX hb;dsimp only at hx;cases wd
 case seek=>
  walk_at "wd";rename_i p0 H0 z0;refine fL (bc.of z0.at) rfl rfl ?_;left;refine aM (by decide+kernel) ?_;left;refine⟨rfl,?_⟩;left;exact rC .seek (.inl rfl) nofun hl hb z0.drop q
 case mtch=>
  walk_at "wd";rename_i p0 H0 z0;refine fL (bc.of z0.at) rfl rfl ?_;left;refine aM (by decide+kernel) ?_;left;refine⟨rfl,?_⟩;left;exact rC .mtch (.inr rfl) nofun hl hb z0.drop q
 case copy=>
  have q:je d p O Q (lq ⟨h,t,l,w,s,m⟩ cs ws):=q;walk_at "wd";rename_i p0 H0 z0;refine fL (bc.of z0.at) rfl rfl ?_;left;refine au (by decide+kernel) ?_
  replace z0:=z0.drop
  walk_at "wd";refine aG (λe=>?_) (λe=>?_)
  .rw[lq,if_pos e]at q;walk_at "wd";exact q _ z0
  have b1:aY ws "look" [h]=none:=(congrArg _ (if_neg e)).symm.trans b1;have b2:aY ws "put" [t]=none:=(congrArg _ (if_neg e)).symm.trans b2;have m1:=(aF b1).1;have m2:=(aF b2).1;obtain⟨g1,g2⟩:=ar m1;obtain⟨g3,g4⟩:=ar m2;rw[lq,if_neg e,hm,if_pos m1,if_pos m2]at q;walk_at "wd";refine aJ (by grind) (iy g1 nofun) ?_;walk_at "wd";refine dA z0 .k1 (cp g3 (by rw[ce];omega)) cJ (λH1 z1=>?_);walk_at "wd"
  repeat walk_at "sc"
  walk_at "wd";rename_i H2 z2 H3 z3 H4 z4;rw[As]at z4;rw[mK,As];exact q _ z4
 case fill=>
  have q:je d p O Q (kH ⟨h,t,l,w,s,m⟩ cs ws):=q;walk_at "wd";rename_i p0 H0 z0;refine fL (bc.of z0.at) rfl rfl ?_;left;refine au (by decide+kernel) ?_
  replace z0:=z0.drop
  walk_at "wd";refine aG (λe=>?_) (λe=>?_)
  .rw[kH,if_pos e]at q;walk_at "wd";exact q _ z0
  have b2:aY ws "put" [t]=none:=(congrArg _ (if_neg e)).symm.trans b2;have m2:=(aF b2).1;obtain⟨g3,g4⟩:=ar m2;rw[kH,if_neg e,if_pos m2]at q;walk_at "wd";refine dA z0 .k1 (cp g3 (by rw[ce];omega)) cJ (λH1 z1=>?_);walk_at "wd"
  repeat walk_at "sc"
  walk_at "wd";rename_i H2 z2 H3 z3;rw[As]at z3;rw[mK,As];exact q _ z3
 case shift=>
  have q:je d p O Q (fZ ⟨h,t,l,w,s,m⟩ cs ws):=q;walk_at "wd";rename_i p0 H0 z0;refine fL (bc.of z0.at) rfl rfl ?_;left;refine au (by decide+kernel) ?_
  replace z0:=z0.drop
  walk_at "wd";refine aG (λe=>?_) (λe=>?_)
  .rw[fZ,if_pos e]at q;walk_at "wd";exact q _ z0
  rw[fZ,if_neg e]at q;have b1:aY ws "look" (CP h t l .shift)=none:=(congrArg _ (if_neg e)).symm.trans b1;have b2:aY ws "put" (CK h t l .shift)=none:=(congrArg _ (if_neg e)).symm.trans b2;walk_at "wd"
  by_cases e2:t<=h
  .have b1:aY ws "look" [h+0]=none:=(congrArg _ (if_pos e2)).symm.trans b1;have b2:aY ws "put" [t+0]=none:=(congrArg _ (if_pos e2)).symm.trans b2;rw[Int.add_zero]at b1 b2;have m1:=(aF b1).1;have m2:=(aF b2).1;obtain⟨g1,g2⟩:=ar m1;obtain⟨g3,g4⟩:=ar m2;rw[if_pos e2,hm,if_pos m1,if_pos m2]at q;refine aM (decide_eq_true e2) ?_;walk_at "wd";refine aJ (by grind) (iy g1 nofun) ?_;walk_at "wd";refine dA z0 .k1 (cp g3 (by rw[ce];omega)) cJ (λH1 z1=>?_);walk_at "wd"
   repeat walk_at "sc"
   walk_at "wd";rename_i H2 z2 H3 z3 H4 z4;rw[As]at z4;rw[mK,As];exact q _ z4
  .have b1:aY ws "look" [h+(l-1)]=none:=(congrArg _ (if_neg e2)).symm.trans b1;have b2:aY ws "put" [t+(l-1)]=none:=(congrArg _ (if_neg e2)).symm.trans b2;rw[show h+(l-1)=h+l-1 by omega]at b1;rw[show t+(l-1)=t+l-1 by omega]at b2;have m1:=(aF b1).1;have m2:=(aF b2).1;obtain⟨g1,g2⟩:=ar m1;obtain⟨g3,g4⟩:=ar m2;rw[if_neg e2,hm,if_pos m1,if_pos m2]at q;refine au (decide_eq_false e2) ?_;walk_at "wd";refine aJ (by grind) (iy g1 nofun) ?_;walk_at "wd";refine dA z0 .k1 (cp g3 (by rw[ce];omega)) cJ (λH1 z1=>?_);walk_at "wd"
   repeat walk_at "sc"
   walk_at "wd";rename_i H2 z2;rw[As]at z2;rw[mK,As];exact q _ z2
 case turn=>
  have q:je d p O Q (lH ⟨h,t,l,w,s,m⟩ cs ws):=q;walk_at "wd";rename_i p0 H0 z0;refine fL (bc.of z0.at) rfl rfl ?_;left;refine au (by decide+kernel) ?_
  replace z0:=z0.drop
  walk_at "wd";refine aG (λe=>?_) (λe=>?_)
  .rw[lH,if_pos e]at q;walk_at "wd";exact q _ z0
  rw[lH,if_neg e]at q;have b1:aY ws "look" (CP h t l .turn)=none:=(congrArg _ (if_neg e)).symm.trans b1;have b2:aY ws "put" (CK h t l .turn)=none:=(congrArg _ (if_neg e)).symm.trans b2;walk_at "wd"
  repeat walk_at "sc"
  refine aD (λe2=>?_) (λe2=>?_)
  .have b1:aY ws "look" [h,h+l-1]=none:=(congrArg _ (if_neg nofun)).symm.trans b1;have b2:aY ws "put" [h,h+l-1]=none:=(congrArg _ (if_neg nofun)).symm.trans b2;obtain⟨m1,b1⟩:=aF b1;obtain⟨m3,b2⟩:=aF b2;have m2:=(aF b1).1;have m4:=(aF b2).1;obtain⟨g1,g2⟩:=ar m1;obtain⟨g3,g4⟩:=ar m2;rw[if_neg (show ¬ l=1 by omega),xm,if_pos m1,if_pos m2,if_pos m3,if_pos m4]at q;walk_at "wd";refine aJ (by grind) (iy g1 nofun) ?_;walk_at "wd";refine aJ (by grind) (iy g3 nofun) ?_;walk_at "wd";refine dA z0 .k1 (cp g1 (by rw[ce];omega)) cJ (λH1 z1=>?_);walk_at "wd";refine dA z1 .k1 (cp g3 (by rw[ce,length_set];omega)) cJ (λH2 z2=>?_);walk_at "wd";rename_i H3 z3 H4 z4;rw[Lo]at z4;rw[mK,Lo];exact q _ z4
  .have e1:l=1:=by omega
   subst e1;rw[if_pos rfl]at q;walk_at "wd";rename_i H3 z3;rw[mK];exact q _ z3
def jq {ls ps:List Int}{v:Str×Int}{a:Out}(h:bF ws (c::ls) ps=some v)(k:bF ws ls ps=some v->a=.no v.1 v.2):(if aj ws "look" c=true then a else .no "look" c)=.no v.1 v.2:=by
 unfold bF at h k;rw[aY]at h
 by_cases e:aj ws "look" c=true
 .rw[if_pos e]at h⊢;exact k h
 .rw[if_neg e]at h⊢;cases h;rfl
def mJ {ps:List Int}{v:Str×Int}{a:Out}(h:bF ws [] (c::ps)=some v)(k:bF ws [] ps=some v->a=.no v.1 v.2):(if aj ws "put" c=true then a else .no "put" c)=.no v.1 v.2:=by
 have h:aY ws "put" (c::ps)=some v:=h;unfold aY at h
 by_cases e:aj ws "put" c=true
 .rw[if_pos e]at h⊢;exact k h
 .rw[if_neg e]at h⊢;cases h;rfl
def jc {v:Str×Int}{a:Out}(h:bF ws [] []=some v):a=.no v.1 v.2:=nomatch (show none=some v from h)
def Fx {dd:Str}(hx:0<=x.l)(hb:bF ws (mR wd x) (vA wd x)=some (dd,c)):cT wd x cs ws=.no dd c:=by
 obtain⟨h,t,l,w,s,m⟩:=x
 by_cases e:l=0
 .have e1:mR wd ⟨h,t,l,w,s,m⟩=[]:=if_pos e;have e2:vA wd ⟨h,t,l,w,s,m⟩=[]:=if_pos e;rw[e1,e2]at hb;cases hb
 have e1:mR wd ⟨h,t,l,w,s,m⟩=CP h t l wd:=if_neg e;have e2:vA wd ⟨h,t,l,w,s,m⟩=CK h t l wd:=if_neg e;rw[e1,e2]at hb;cases wd
 .exact(if_neg e).trans (jq hb λhb=>mJ hb jc)
 .exact(if_neg e).trans (mJ hb jc)
 .exact(if_neg e).trans (jq hb jc)
 .exact(if_neg e).trans (jq hb λhb=>jq hb jc)
 .refine(if_neg e).trans ?_
  by_cases e2:t<=h
  .rw[show CP h t l .shift=[h+0] from if_pos e2,show CK h t l .shift=[t+0] from if_pos e2,Int.add_zero,Int.add_zero]at hb;exact(if_pos e2).trans (jq hb λhb=>mJ hb jc)
  .rw[show CP h t l .shift=[h+(l-1)] from if_neg e2,show CK h t l .shift=[t+(l-1)] from if_neg e2,<-Int.add_sub_assoc,<-Int.add_sub_assoc]at hb;exact(if_neg e2).trans (jq hb λhb=>mJ hb jc)
 .refine(if_neg e).trans ?_
  by_cases e2:l=1
  .rw[show CP h t l .turn=[] from if_pos e2,show CK h t l .turn=[] from if_pos e2]at hb;exact jc hb
  .rw[show CP h t l .turn=[h,h+l-1] from if_neg e2,show CK h t l .turn=[h,h+l-1] from if_neg e2]at hb;exact(if_neg e2).trans (jq hb λhb=>jq hb λhb=>mJ hb λhb=>mJ hb jc)
end
def dq {xs:List α}(h0:0<=i)(h1:i<xs.length):∃ v,nZ xs i=some v/\v ∈ xs:=by
 have hl:i.toNat<xs.length:=by omega
 refine⟨xs[i.toNat],?_,getElem_mem hl⟩;have:=L2.nK (li hl)
 rwa [Int.toNat_of_nonneg h0]at this
def d5 {r:Int}(h0:0<=r)(h1:r<xs.length)(h:∀ v ∈ xs,P v):∃ v,nZ xs r=some v/\P v:=by
 obtain⟨v,hv,hm⟩:=dq h0 h1;exact⟨v,hv,h v hm⟩
abbrev inR (lo hi:Int)(v:V):Prop:=∃ i,v=wl i/\lo<=i/\i<=hi
def inR.mk {lo hi:Int}(h0:lo<=i)(h1:i<=hi):inR lo hi (wl i):=⟨i,rfl,h0,h1⟩
def JI {a b:V}(ha:P a)(hb:P b):∀ v ∈ [a,b],P v:=λv hv=>by
 simp only[nb,not_mem_nil,or_false]at hv;rcases hv with rfl|rfl<;>assumption
def LO {a b c:V}(ha:P a)(hb:P b)(hc:P c):∀ v ∈ [a,b,c],P v:=λv hv=>by
 simp only[nb,not_mem_nil,or_false]at hv;rcases hv with rfl|rfl|rfl<;>assumption
def LQ {a b c d:V}(ha:P a)(hb:P b)(hc:P c)(hd:P d):∀ v ∈ [a,b,c,d],P v:=λv hv=>by
 simp only[nb,not_mem_nil,or_false]at hv;rcases hv with rfl|rfl|rfl|rfl<;>assumption
abbrev hU:Nat->lY->lY
 |0,b=>b
 |n+1,.cons _ r=>hU n r
 |_+1,.nil=>.nil
def qm {cs:List Int}{j:Int}{w:Str}(ro:Ro K R)(hk:3<=k)(z:Sep O H)(r:aO (aV R a cs ws) (aV R a cs (bO w ws i.toNat (j-i).toNat)) O Γ')(h0:0<=i)(h1:i<=j)(h2:j<=ws.length)(hw:c8 w=true)(q:∀ H',Sep Γ' H'->Q wp H'):ae tab R k 54 [wf a,wl i,wl j,wn w] H Q E:=by
 obtain⟨Δ,p1,p2⟩:=r.bG;obtain⟨ok,z2⟩:=fV (z.pull p1);have hwi:ay ws.length (wl i) (wl j)=true:=by simp[ay,h0,h1,h2]
 refine t6 (t1:="int") (t2:="int") (t3:="str") ro hk z2 (by rw[ce];exact ok.1) (by have:=ok.1;have:=ok.2.2.1;omega) rfl rfl rfl (λa' b' w' e1 e2 e3 _ _ H' z3=>?_) (λhb=>absurd hb ?_)
 .cases e1;cases e2;cases e3;refine q H' (Sep.push p2 (gY ⟨?_,ok.2⟩ z3));rw[dh];exact ok.1
 .rw[hwi];show ¬ (true&&c8 w)=false;rw[hw]
  decide
abbrev Wd.cl:Wd->Nat
 | .copy=>22
 | .fill=>23
 | .seek=>24
 | .mtch=>25
 | .shift=>26
 | .turn=>27
def EX (wd:Wd)(hk:1<=k)(z:Sep O H)(q:∀ d H',Sep (dd R d wd.cl::O) H'->Q (wf d) H'):ae tab R k 100 [wn wd.s] H Q E:=by
 delta jk;cases wd
 all_goals
  right
  repeat walk_at "sc"
  exact Kf z (λx dx H1 z1=>q x H1 (K3 z1))
inductive Bn where
 |h
 |t
 |l
 |w
 |s
 |m
abbrev Bn.j:Bn->Nat
 | .h=>0
 | .t=>1
 | .l=>2
 | .w=>3
 | .s=>4
 | .m=>5
abbrev Bn.nm:Bn->Str
 | .h=>"here"
 | .t=>"there"
 | .l=>"left"
 | .w=>"way"
 | .s=>"sign"
 | .m=>"met"
def Bn.at (b:Bn):pJ[b.j]? =some b.nm:=by cases b<;>rfl
abbrev Bx.g (x:Bx):Bn->Int
 | .h=>x.h
 | .t=>x.t
 | .l=>x.l
 | .w=>x.w
 | .s=>x.s
 | .m=>x.m
abbrev Bx.p (x:Bx)(i:Int):Bn->Bx
 | .h=>⟨i,x.t,x.l,x.w,x.s,x.m⟩
 | .t=>⟨x.h,i,x.l,x.w,x.s,x.m⟩
 | .l=>⟨x.h,x.t,i,x.w,x.s,x.m⟩
 | .w=>⟨x.h,x.t,x.l,i,x.s,x.m⟩
 | .s=>⟨x.h,x.t,x.l,x.w,i,x.m⟩
 | .m=>⟨x.h,x.t,x.l,x.w,x.s,i⟩
def Bx.gl (x:Bx)(b:Bn):x.ls[b.j]? =some (x.g b):=by cases b<;>rfl
def Bx.pl (x:Bx)(i:Int)(b:Bn):x.ls.set b.j i=(x.p i b).ls:=by cases b<;>rfl
abbrev bg (b:Bn)(i:Int):Bool:=bB b.j (wl i)
def EV {b:Bn}(h:bg b i=true)(o:x.ok):(x.p i b).ok:=by
 obtain⟨o1,o2,o3,o4,o5,o6⟩:=o;cases b
 .have h:(decide (-1000000000<=i)&&decide (i<=1000000000))=true:=h;have h: -1000000000<=i/\i<=1000000000:=by simpa using h
  exact⟨h,o2,o3,o4,o5,o6⟩
 .have h:(decide (-1000000000<=i)&&decide (i<=1000000000))=true:=h;have h: -1000000000<=i/\i<=1000000000:=by simpa using h
  exact⟨o1,h,o3,o4,o5,o6⟩
 .have h:(decide (0<=i)&&decide (i<=1000000000))=true:=h;have h:0<=i/\i<=1000000000:=by simpa using h
  exact⟨o1,o2,h,o4,o5,o6⟩
 .have h:(i ==1||i == -1)=true:=h;have h:i=1\/i= -1:=by simpa using h
  exact⟨o1,o2,o3,h,o5,o6⟩
 .have h:(decide (0<=i)&&decide (i<=1000000000))=true:=h;have h:0<=i/\i<=1000000000:=by simpa using h
  exact⟨o1,o2,o3,o4,h,o6⟩
 .have h:(i ==0||i ==1)=true:=h;have h:i=0\/i=1:=by simpa using h
  exact⟨o1,o2,o3,o4,o5,h⟩
def K9 {b:Addr}{n:Bn}(ro:Ro K R)(hk:4<=k)(z:Sep (aP R b x::O) H)(q0:bg n i=true->∀ H',Sep (aP R b (x.p i n)::O) H'->Q wp H')
  (q1:bg n i=false->∀ e H',Sep (j9 (R.cad 4) [("box",wn n.nm),("number",wl i)] e false::aP R b x::O) H'->E e H'):ae tab R k 17 [wf b,wn n.nm,wl i] H Q E:=by
 cases h:bg n i with
 |true=>exact qP ro hk z .e n.at h (x.pl i n) (EV h) (q0 h)
 |false=>
  obtain⟨o,z2⟩:=dR z;exact rK ro hk z2 n.at rfl h λe d H' z3=>q1 h e H' (jD (Sep.push .k2 (my o (z3.pull .k2))))
def xj {b:Addr}{n:Bn}(ro:Ro K R)(hk:2<=k)(z:Sep O H)(p:ag (aP R b x) O Δ)(q:Q (wl (x.g n)) H):ae tab R k 16 [wf b,wn n.nm] H Q E:=dN ro hk (dR (z.pull p)).2 n.at (x.gl n) q
def ma {K:W.Frag}{n:Bn}(z:Sep O H)(p:ag (ao d x) O Δ)(q:Q (wl (x.g n)) H):qF K (wf d) (wn n.nm) H Q:=by
 refine nR (k:=.inr n.nm) (v:=wl (x.g n)) (z.get p) ?_ q;cases n<;>rfl
def A0 {n:Bn}{P:Hp->Prop}(z:Sep O H)(r:aO (ao d x) (ao d (x.p i n)) O Γ')(q:∀ H',Sep Γ' H'->P H'):gF (wf d) (wn n.nm) (wl i) H P:=qC z r n.at (x.pl i n) q
inductive Sp where
 |set (b:Bn) (i:Int)
 |add (b:Bn) (i:Int)
 |take (b c:Bn)
 |read (b:Bn)
 |write (b:Bn)
abbrev Sp.w:Sp->Str
 | .set _ _=>"set"
 | .add _ _=>"add"
 | .take _ _=>"take"
 | .read _=>"read"
 | .write _=>"write"
abbrev Sp.b:Sp->Bn
 | .set b _=>b
 | .add b _=>b
 | .take b _=>b
 | .read b=>b
 | .write b=>b
abbrev Sp.tl:Sp->List V
 | .set b i=>[wn "set",wn b.nm,wl i]
 | .add b i=>[wn "add",wn b.nm,wl i]
 | .take b c=>[wn "take",wn b.nm,wn c.nm]
 | .read b=>[wn "read",wn b.nm]
 | .write b=>[wn "write",wn b.nm]
abbrev Sp.cl:Sp->Nat
 | .set _ _=>13
 | .add _ _=>14
 | .take _ _=>15
 | .read _=>16
 | .write _=>17
abbrev Sp.fs:Sp->List (Str×V)
 | .set b i=>[("box",wn b.nm),("number",wl i)]
 | .add b i=>[("box",wn b.nm),("number",wl i)]
 | .take b c=>[("box",wn b.nm),("other",wn c.nm)]
 | .read b=>[("box",wn b.nm)]
 | .write b=>[("box",wn b.nm)]
abbrev Sp.ok:Sp->Prop
 | .set _ i=>-1000000000<=i/\i<=1000000000
 | .add _ i=>-1000000000<=i/\i<=1000000000
 |_=>True
inductive wA where
 |on (x:Bx) (cs:List Int)
 |no (d:Str) (c:Int)
 |nf (b:Bn) (i:Int)
abbrev bt (x:Bx)(cs:List Int)(b:Bn)(i:Int):wA:=if bg b i=true then .on (x.p i b) cs else .nf b i
abbrev jN (x:Bx)(cs:List Int)(ws:List Str):Sp->wA
 | .set b i=>bt x cs b i
 | .add b i=>bt x cs b (x.g b+i)
 | .take b c=>bt x cs b (x.g c)
 | .read b=>if aj ws "look" x.h=true then bt x cs b (gt cs x.h) else .no "look" x.h
 | .write b=>if fM (wl (x.g b))=true then(if aj ws "put" x.t=true then .on x (cs.set x.t.toNat (x.g b)) else .no "put" x.t) else .nf b (x.g b)
abbrev sd (R:Rt)(d:Addr)(sp:Sp):av:=bx λdx:Addr=>[pt d (ww (R.cad sp.cl) dx sp.fs),pt dx (.own d)]
def xx (s:Sep (pt d (ww (R.cad sp.cl) dx sp.fs)::pt dx (.own d)::O) H):Sep (sd R d sp::O) H:=gQ dx s
def pV (s:Sep O H)(p:ag (sd R d sp) O Δ):∃ dx,H d=some (ww (R.cad sp.cl) dx sp.fs):=by
 obtain⟨dx,s⟩:=iK (s.pull p);exact⟨dx,Sep.at s⟩
abbrev ft (R:Rt)(b a:Addr)(x:Bx)(cs:List Int)(ws:List Str)(O:List av)(Q:VK)(E:XK):wA->Prop
 | .on x' cs'=>∀ H',Sep (aP R b x'::aV R a cs' ws::O) H'->Q (wl 1) H'
 | .no d c=>∀ e H',Sep (j9 (R.cad 3) [("deed",wn d),("cell",wl c)] e false::aP R b x::aV R a cs ws::O) H'->E e H'
 | .nf n i=>∀ e H',Sep (j9 (R.cad 4) [("box",wn n.nm),("number",wl i)] e false::aP R b x::aV R a cs ws::O) H'->E e H'
def km {b:Addr}{cs:List Int}{n:Bn}(ro:Ro K R)(hk:4<=k)(z:Sep (aP R b x::aV R a cs ws::O) H)(q:ft R b a x cs ws O (λ_=>Q wp) E (bt x cs n i)):ae tab R k 17 [wf b,wn n.nm,wl i] H Q E:=by
 unfold bt at q;refine K9 ro hk z (λh H' z'=>?_) (λh e H' z'=>?_)
 .rw[if_pos h]at q;exact q H' z'
 .rw[if_neg (by rw[h];exact Bool.false_ne_true)]at q;exact q e H' z'
def ft.imp {b:Addr}{cs:List Int}{Q':VK}(h:∀ H',Q (wl 1) H'->Q' (wl 1) H'):∀ {o:wA},ft R b a x cs ws O Q E o->ft R b a x cs ws O Q' E o
 | .on _ _,q=>λH' z=>h _ (q H' z)
 | .no _ _,q=>q
 | .nf _ _,q=>q
def Ij:Ob R (sd R d sp) d sp.cl (sp.fs.map (·.1)):=by
 rintro H D ⟨dx,D1,D2,_,_,_,⟨_,h⟩,_⟩;exact⟨dx,_,h,rfl⟩
def Bd (sp:Sp)(ro:Ro K R):∃ f,tab.me.lookup (sp.cl,("step":Str))=some f/\(∀ Ψ,dflt ⟨tab,R,Ψ,true⟩ f 3=[])/\∀ {k:Nat}{de b a:Addr}{x:Bx}{cs:List Int}{ws:List Str}{O:List av}{H:Hp}{Q:VK}{E:XK},5<=k->Sep (aP R b x::aV R a cs ws::sd R de sp::O) H->ft R b a x cs ws (sd R de sp::O) Q E (jN x cs ws sp)->ae tab R k f [wf de,wf b,wf a] H Q E:=by
 cases sp with
 |set n i=>
  refine⟨23,rfl,λ_=>rfl,λ{k de b a x cs ws O H Q E} hk z q=>wc (d:=lN) nofun rfl rfl ?_⟩;obtain⟨dx,e⟩:=pV z (by symm);right;refine af bq z (by symm) rfl rfl ?_;left;refine cF e rfl rfl rfl ?_;left;refine cF e rfl rfl rfl ?_;left;refine aW (vs':=[_,_,_]) rfl ?_;exact km ro nofun z (ft.imp (Q:=Q) (λH' h=>h) q)
 |add n i=>
  refine⟨26,rfl,λ_=>rfl,λ{k de b a x cs ws O H Q E} hk z q=>wc (d:=lC) nofun rfl rfl ?_⟩;obtain⟨dx,e⟩:=pV z (by symm);right;refine af bq z (by symm) rfl rfl ?_;left;refine cF e rfl rfl rfl ?_;right;refine af bq z (by symm) rfl rfl ?_;left;refine cF e rfl rfl rfl ?_;left;refine aW (vs':=[_,_]) rfl ?_;refine xj (n:=n) ro nofun z (by symm) ?_;left;refine cF e rfl rfl rfl ?_;right;refine aW (vs':=[_,_,_]) rfl ?_;exact km ro nofun z (ft.imp (Q:=Q) (λH' h=>h) q)
 |take n m=>
  refine⟨29,rfl,λ_=>rfl,λ{k de b a x cs ws O H Q E} hk z q=>wc (d:=jr) nofun rfl rfl ?_⟩;obtain⟨dx,e⟩:=pV z (by symm);right;refine af bq z (by symm) rfl rfl ?_;left;refine cF e rfl rfl rfl ?_;right;refine af bq z (by symm) rfl rfl ?_;left;refine cF e rfl rfl rfl ?_;left;refine aW (vs':=[_,_]) rfl ?_;refine xj (n:=m) ro nofun z (by symm) ?_;left;refine aW (vs':=[_,_,_]) rfl ?_;exact km ro nofun z (ft.imp (Q:=Q) (λH' h=>h) q)
 |read n=>
  refine⟨32,rfl,λ_=>rfl,λ{k de b a x cs ws O H Q E} hk z q=>wc (d:=ji) nofun rfl rfl ?_⟩;obtain⟨dx,e⟩:=pV z (by symm);right;refine af bq z (by symm) rfl rfl ?_;left;refine cF e rfl rfl rfl ?_;right;refine af bj z (by symm) rfl rfl ?_;right;refine af bq z (by symm) rfl rfl ?_;left;refine aW (vs':=[_,_]) rfl ?_;refine xj (n:=.h) ro nofun z (by symm) ?_;left;refine aW (vs':=[_,_]) rfl ?_;have q:ft R b a x cs ws (sd R de (.read n)::O) Q E (if aj ws "look" x.h=true then bt x cs n (gt cs x.h) else .no "look" x.h):=q;refine dG (i:=x.h) nofun z (by symm) (λh=>?_) (λh e H' z'=>?_)
  .rw[if_pos h]at q;left;refine aW (vs':=[_,_,_]) rfl ?_;exact km ro nofun z (ft.imp (Q:=Q) (λH' h=>h) q)
  .rw[if_neg (by rw[h];exact Bool.false_ne_true)]at q;exact q e H' z'
 |write n=>
  refine⟨35,rfl,λ_=>rfl,λ{k de b a x cs ws O H Q E} hk z q=>wc (d:=g9) nofun rfl rfl ?_⟩;obtain⟨dx,e⟩:=pV z (by symm);have q:ft R b a x cs ws (sd R de (.write n)::O) Q E (if fM (wl (x.g n))=true then(if aj ws "put" x.t=true then .on x (cs.set x.t.toNat (x.g n)) else .no "put" x.t) else .nf n (x.g n)):=q;right;refine af bq z (by symm) rfl rfl ?_;left;refine cF e rfl rfl rfl ?_;left;refine aW (vs':=[_,_]) rfl ?_;refine xj (n:=n) ro nofun z (by symm) ?_;right;refine cx (t:="int") ro nofun rfl ?_;cases hc:fM (wl (x.g n)) with
  |false=>
   rw[if_neg (by rw[hc];exact Bool.false_ne_true)]at q;right;refine cF e rfl rfl rfl ?_;right;intro ex he;refine iz nofun (z.new he) (λd H3 hs3=>⟨rfl,?_⟩);exact eD (G:=⟨tab,R,ae tab R (k-1),true⟩) hs3 .e rfl (λH4 hs4=>q ex H4 (jD hs4))
  |true=>
   rw[if_pos hc]at q;right;refine af bj z (by symm) rfl rfl ?_;right;refine af bq z (by symm) rfl rfl ?_;left;refine aW (vs':=[_,_]) rfl ?_;refine xj (n:=.t) ro nofun z (by symm) ?_;left;refine aW (vs':=[_,_,_]) rfl ?_;have hc2:0<=x.g n/\x.g n<=1000000000:=by
    have hc3:(decide (0<=x.g n)&&decide (x.g n<=1000000000))=true:=hc;simpa using hc3
   refine kB (i:=x.t) nofun z (by ac_rfl) hc2 (λh H' z'=>?_) (λh e H' z'=>?_)
   .rw[if_pos h]at q;exact q H' z'
   .rw[if_neg (by rw[h];exact Bool.false_ne_true)]at q;exact q e H' z'
def bE {w:Str}{n:Bn}(ro:Ro K R)(hk:2<=k)(q:Q wp H):ae tab R k 20 [wn w,wn n.nm] H Q E:=by
 delta jI;right;refine nH (t:="str") ro nofun rfl ?_;rw[rQ n.at];right;exact q
def eG {w:Str}(ro:Ro K R)(hk:3<=k)(h0: -1000000000<=i)(h1:i<=1000000000)(q:Q wp H):ae tab R k 21 [wn w,wl i] H Q E:=by
 delta eC;right;refine et (t:="int") ro nofun rfl ?_;rw[show eU (wl i)=true by simp[eU,h0,h1]];right;exact q
def Jm {x:Addr}{n:Bn}(ro:Ro K R)(hk:4<=k)(h0: -1000000000<=i)(h1:i<=1000000000)(z:Sep (pt x (ww (R.cad 13) dx [])::pt dx (.own x)::O) H)(q:∀ H',Sep (sd R x (.set n i)::O) H'->Q wp H'):ae tab R k 22 [wf x,wn n.nm,wl i] H Q E:=by
 delta fh;right;refine bE ro nofun ?_;right;refine eG ro nofun h0 h1 ?_;right;exact q _ (xx (by assumption))
def Im {x:Addr}{n:Bn}(ro:Ro K R)(hk:4<=k)(h0: -1000000000<=i)(h1:i<=1000000000)(z:Sep (pt x (ww (R.cad 14) dx [])::pt dx (.own x)::O) H)(q:∀ H',Sep (sd R x (.add n i)::O) H'->Q wp H'):ae tab R k 25 [wf x,wn n.nm,wl i] H Q E:=by
 delta fg;right;refine bE ro nofun ?_;right;refine eG ro nofun h0 h1 ?_;right;exact q _ (xx (by assumption))
def Jh {x:Addr}{n m:Bn}(ro:Ro K R)(hk:4<=k)(z:Sep (pt x (ww (R.cad 15) dx [])::pt dx (.own x)::O) H)(q:∀ H',Sep (sd R x (.take n m)::O) H'->Q wp H'):ae tab R k 28 [wf x,wn n.nm,wn m.nm] H Q E:=by
 delta dZ;right;refine bE ro nofun ?_;right;refine bE ro nofun ?_;right;exact q _ (xx (by assumption))
def IB {x:Addr}{n:Bn}(ro:Ro K R)(hk:4<=k)(z:Sep (pt x (ww (R.cad 16) dx [])::pt dx (.own x)::O) H)(q:∀ H',Sep (sd R x (.read n)::O) H'->Q wp H'):ae tab R k 31 [wf x,wn n.nm] H Q E:=by
 delta dP;right;refine bE ro nofun ?_;right;exact q _ (xx (by assumption))
def Hl {x:Addr}{n:Bn}(ro:Ro K R)(hk:4<=k)(z:Sep (pt x (ww (R.cad 17) dx [])::pt dx (.own x)::O) H)(q:∀ H',Sep (sd R x (.write n)::O) H'->Q wp H'):ae tab R k 34 [wf x,wn n.nm] H Q E:=by
 delta dm;right;refine bE ro nofun ?_;right;exact q _ (xx (by assumption))
abbrev kR:V->Bool
 | wl i=>decide (0<=i)&&decide (i<=24)
 |_=>false
abbrev G0:V->Bool
 | wp=>true
 | wl i=>i ==0||i ==1
 |_=>false
def vM (ro:Ro K R)(hk:2<=k)(ht:tyName v H=some t)(q:Q (.bl (kR v)) H):ae tab R k 73 [v] H Q E:=by
 delta mG;right;refine aK nofun ht ?_;cases dC ht
 case int i=>
  right;refine aD (λh0=>?_) (λh0=>?_)
  .left;simp only[ro.g_MOST_HOPPED];right;rw[show kR (wl i)=decide (i<=24) by simp[kR,h0]]at q;exact q
  .right;rw[show kR (wl i)=false by simp[kR,h0]]at q;exact q
 all_goals
  right;exact q
def A8 (hk:2<=k)(ht:tyName v H=some t)(q:Q (.bl (G0 v)) H):ae tab R k 74 [v] H Q E:=by
 delta uQ;right;refine iZ ?_;cases dC ht
 case int i=>
  left;refine au rfl ?_;right;refine aK (t:="int") nofun rfl ?_;right;refine aG (λh0=>?_) (λh0=>?_)
  .right;rw[show G0 (wl i)=true by simp[G0,h0]]at q;exact q
  .right;rw[show G0 (wl i)=(i ==1) by simp[G0,h0]]at q;exact q
 case non=>
  left;refine aM rfl ?_;exact q
 all_goals
  left;refine au rfl ?_;right;refine aK nofun ht ?_;right;exact q
abbrev oV:Option Int->V
 |none=>wp
 |some i=>wl i
abbrev LK:Option Int->Prop
 |none=>True
 |some i=>i=0\/i=1
abbrev GS (R:Rt)(d:Addr)(n:Int)(o:Option Int):av:=bx λdx:Addr=>[pt d (ww (R.cad 21) dx [("many",wl n),("on",oV o)]),pt dx (.own d)]
def KN {n:Int}{o:Option Int}(s:Sep (pt d (ww (R.cad 21) dx [("many",wl n),("on",oV o)])::pt dx (.own d)::O) H):Sep (GS R d n o::O) H:=gQ dx s
def HJ {n:Int}{o:Option Int}(s:Sep O H)(p:ag (GS R d n o) O Δ):∃ dx,H d=some (ww (R.cad 21) dx [("many",wl n),("on",oV o)]):=by
 obtain⟨dx,s⟩:=iK (s.pull p);exact⟨dx,Sep.at s⟩
def G6 {n:Int}{o:Option Int}:Ob R (GS R d n o) d 21 ["many","on"]:=by
 rintro H D ⟨dx,D1,D2,_,_,_,⟨_,h⟩,_⟩;exact⟨dx,_,h,rfl⟩
def Ig {x:Addr}{n:Int}{o:Option Int}(ro:Ro K R)(hk:4<=k)(h0:0<=n)(h1:n<=24)(ho:LK o)(z:Sep (pt x (ww (R.cad 21) dx [])::pt dx (.own x)::O) H)(q:∀ H',Sep (GS R x n o::O) H'->Q wp H'):ae tab R k 75 [wf x,wl n,oV o] H Q E:=by
 delta eO;right;refine vM (t:="int") ro nofun rfl ?_;rw[show kR (wl n)=true by simp[kR,h0,h1]];right;obtain⟨t,ht⟩:∃ t,tyName (oV o) H=some t:=by cases o<;>exact⟨_,rfl⟩
 refine A8 nofun ht ?_;rw[show G0 (oV o)=true by cases o with|none=>rfl|some i=>rcases ho with rfl|rfl<;>rfl];right;exact q _ (KN (by assumption))
abbrev HI (n:Int)(o:Option Int)(m:Int):Int:=match o with
 |none=>1+n
 |some i=>if i=m then 1+n else 1
def B4 {b:Addr}{n:Int}{o:Option Int}(ro:Ro K R)(hk:3<=k)(z:Sep O H)(p1:ag (GS R d n o) O Δ){Δ':List av}(p2:ag (aP R b x) O Δ')(q:Q (wl (HI n o x.m)) H):ae tab R k 76 [wf d,wf b,v] H Q E:=by
 delta kJ;obtain⟨dx,e⟩:=HJ z p1;right;refine cF e rfl rfl rfl ?_;right;refine iZ ?_;cases o with
 |none=>
  left;refine aM rfl ?_;right;refine cF e rfl rfl rfl ?_;right;exact q
 |some i=>
  left;refine au rfl ?_;right;refine cF e rfl rfl rfl ?_;right;refine af bq z p2 rfl rfl ?_;left;refine aW (vs':=[_,_]) rfl ?_;obtain⟨h,t,l,w,s,m⟩:=x;refine HH ro nofun z p2 ?_;right;have q:Q (wl (if i=m then 1+n else 1)) H:=q;refine aG (λh0=>?_) (λh0=>?_)
  .rw[if_pos h0]at q;right;refine cF e rfl rfl rfl ?_;right;exact q
  .rw[if_neg h0]at q;right;exact q
def step_any (wd:Wd)(ro:Ro K R):∃ f,tab.me.lookup (wd.cl,("step":Str))=some f/\(∀ Ψ,dflt ⟨tab,R,Ψ,true⟩ f 3=[])/\∀ {k:Nat}{v:V}{b a:Addr}{x:Bx}{cs:List Int}{ws:List Str}{O:List av}{H:Hp}{Q:VK}{E:XK},8<=k->Sep (aP R b x::aV R a cs ws::O) H->tB R b a x cs ws O Q E (cT wd x cs ws)->ae tab R k f [v,wf b,wf a] H Q E:=by
 cases wd
 .exact⟨84,rfl,λ_=>rfl,λhk z q=>AG ro hk z q⟩
 .exact⟨86,rfl,λ_=>rfl,λhk z q=>Ca ro hk z q⟩
 .exact⟨88,rfl,λ_=>rfl,λhk z q=>B8 ro hk z q⟩
 .exact⟨90,rfl,λ_=>rfl,λhk z q=>zT ro hk z q⟩
 .exact⟨92,rfl,λ_=>rfl,λhk z q=>xu ro nofun z q⟩
 .exact⟨94,rfl,λ_=>rfl,λhk z q=>AX ro nofun z q⟩
def kj {n:Bn}(hk:1<=k)(q:Q (.bl (bg n i)) H):ae tab R k 103 [wn n.nm,wl i] H Q E:=by
 delta jf;cases n
 all_goals right
 all_goals repeat walk_at "sc"
 .rw[mi];refine aD (λh0=>?_) (λh0=>?_)
  .right;rw[mi];rw[show bg .h i=decide (i<=1000000000) by simp[bg,Bn.j,bB,eU,h0]]at q;exact q
  .right;rw[show bg .h i=false by simp[bg,Bn.j,bB,eU,h0]]at q;exact q
 .rw[mi];refine aD (λh0=>?_) (λh0=>?_)
  .right;rw[mi];rw[show bg .t i=decide (i<=1000000000) by simp[bg,Bn.j,bB,eU,h0]]at q;exact q
  .right;rw[show bg .t i=false by simp[bg,Bn.j,bB,eU,h0]]at q;exact q
 .refine aD (λh0=>?_) (λh0=>?_)
  .right;rw[mi];rw[show bg .l i=decide (i<=1000000000) by simp[bg,Bn.j,bB,fM,h0]]at q;exact q
  .right;rw[show bg .l i=false by simp[bg,Bn.j,bB,fM,h0]]at q;exact q
 .refine aG (λh0=>?_) (λh0=>?_)
  .right;rw[show bg .w i=true by simp[bg,Bn.j,bB,mj,h0]]at q;exact q
  .right;rw[show bg .w i=(i == -1) by simp[bg,Bn.j,bB,mj,h0]]at q;exact q
 .refine aD (λh0=>?_) (λh0=>?_)
  .right;rw[mi];rw[show bg .s i=decide (i<=1000000000) by simp[bg,Bn.j,bB,fM,h0]]at q;exact q
  .right;rw[show bg .s i=false by simp[bg,Bn.j,bB,fM,h0]]at q;exact q
 .refine aG (λh0=>?_) (λh0=>?_)
  .right;rw[show bg .m i=true by simp[bg,Bn.j,bB,mj,h0]]at q;exact q
  .right;rw[show bg .m i=(i ==1) by simp[bg,Bn.j,bB,mj,h0]]at q;exact q
inductive Rw where
 |lg (w:Wd)
 |sp (s:Sp)
 |hop (n:Int) (o:Option Int)
abbrev Rw.tl:Rw->List V
 | .lg w=>[wn w.s]
 | .sp s=>s.tl
 | .hop n o=>[wn "hop",wl n,oV o]
abbrev Rw.ok:Rw->Prop
 | .lg _=>True
 | .sp s=>s.ok
 | .hop n o=>(0<=n/\n<=24)/\LK o
abbrev Rw.cl:Rw->Nat
 | .lg w=>w.cl
 | .sp s=>s.cl
 | .hop _ _=>21
abbrev mD (R:Rt)(d:Addr):Rw->av
 | .lg w=>dd R d w.cl
 | .sp s=>sd R d s
 | .hop n o=>GS R d n o
abbrev Rw.fs:Rw->List Str
 | .lg _=>[]
 | .sp s=>s.fs.map (·.1)
 | .hop _ _=>["many","on"]
def Dy (r:Rw):Ob R (mD R d r) d r.cl r.fs:=by
 cases r with
 |lg w=>exact IX
 |sp s=>exact Ij
 |hop n o=>exact G6
variable {r:Rw}
def IM (z:Sep O H)(p:ag (mD R d r) O Δ):∃ dx fs,H d=some (ww (R.cad r.cl) dx fs):=by
 obtain⟨D,k,D1,D2,s1,s2,dj,h1,h2⟩:=z.pull p;obtain⟨dx,fs,e,_⟩:=Dy r H D1 h1;exact⟨dx,fs,e⟩
inductive kW where
 |on (r:Int) (x:Bx) (cs:List Int)
 |no (d:Str) (c:Int)
 |nf (b:Bn) (i:Int)
abbrev ofM:Out->kW
 | .on r x cs=>.on r x cs
 | .no d c=>.no d c
abbrev jX:wA->kW
 | .on x cs=>.on 1 x cs
 | .no d c=>.no d c
 | .nf b i=>.nf b i
abbrev fe (x:Bx)(cs:List Int)(ws:List Str):Rw->kW
 | .lg w=>ofM (cT w x cs ws)
 | .sp s=>jX (jN x cs ws s)
 | .hop n o=>.on (HI n o x.m) x cs
abbrev Ap (R:Rt)(b a:Addr)(x:Bx)(cs:List Int)(ws:List Str)(O:List av)(Q:VK)(E:XK):kW->Prop
 | .on r x' cs'=>∀ H',Sep (aP R b x'::aV R a cs' ws::O) H'->Q (wl r) H'
 | .no d c=>∀ e H',Sep (j9 (R.cad 3) [("deed",wn d),("cell",wl c)] e false::aP R b x::aV R a cs ws::O) H'->E e H'
 | .nf n i=>∀ e H',Sep (j9 (R.cad 4) [("box",wn n.nm),("number",wl i)] e false::aP R b x::aV R a cs ws::O) H'->E e H'
def C6 (r:Rw)(ro:Ro K R):∃ f,tab.me.lookup (r.cl,("step":Str))=some f/\(∀ Ψ,dflt ⟨tab,R,Ψ,true⟩ f 3=[])/\∀ {k:Nat}{de b a:Addr}{x:Bx}{cs:List Int}{ws:List Str}{O:List av}{H:Hp}{Q:VK}{E:XK},8<=k->Sep (aP R b x::aV R a cs ws::mD R de r::O) H->Ap R b a x cs ws (mD R de r::O) Q E (fe x cs ws r)->ae tab R k f [wf de,wf b,wf a] H Q E:=by
 cases r with
 |lg w=>
  obtain⟨f,hf,hd,hs⟩:=step_any w ro;refine⟨f,hf,hd,λ{k de b a x cs ws O H Q E} hk z q=>hs hk z ?_⟩;have q:Ap R b a x cs ws (mD R de (.lg w)::O) Q E (ofM (cT w x cs ws)):=q
  revert q
  cases cT w x cs ws<;>exact λq=>q
 |sp s=>
  obtain⟨f,hf,hd,hs⟩:=Bd s ro;refine⟨f,hf,hd,λ{k de b a x cs ws O H Q E} hk z q=>hs nofun z ?_⟩;have q:Ap R b a x cs ws (mD R de (.sp s)::O) Q E (jX (jN x cs ws s)):=q
  revert q
  cases jN x cs ws s<;>exact λq=>q
 |hop n o=>
  refine⟨76,rfl,λ_=>rfl,λ{k de b a x cs ws O H Q E} hk z q=>?_⟩;exact B4 ro nofun z .k2 .e (q H z)
def vN {cs:List Int}(ro:Ro K R)(hk:5<=k)(z:Sep O H)(p:ag (aV R a cs ws) O Δ)(q:∀ c H',Sep (aV R c cs ws::O) H'->Q (wf c) H'):ae tab R k 58 [wf a] H Q E:=by
 delta fu;have ok:=cM z p;right;rename_i l H1 z1;intro c dx g1 g2 g3;refine n8 (cs:=[0]) ro nofun (by decide) (by decide) (λi hi=>by rw[mem_singleton.mp hi];decide) (gJ z1 g1 g2 g3) .e (λH2 z2=>⟨rfl,?_⟩);obtain⟨_,z3⟩:=fV z2;obtain⟨dx1,c1,d1,z4⟩:=bJ z3;obtain⟨_,z5⟩:=fV (z4.pull (.j2 (.j2 (.t p))));obtain⟨dx2,c2,d2,z6⟩:=bJ z5;clear z1 z2 z3 z4 z5;right;rename_i l3 H3 z7 H4 z8 l5 H5 z9 H6 z10;refine q c H6 ?_;have z11:Sep (pt c (ww (R.cad 19) dx1 [("contents",wf l3),("permits",wf l5)])::pt dx1 (.own c)::pt l3 (wr (cs.map wl))::pt l5 (wr (ws.map wn))::pt a (ww (R.cad 19) dx2 [("contents",wf c2),("permits",wf d2)])::pt dx2 (.own a)::pt c2 (wr (cs.map wl))::pt d2 (wr (ws.map wn))::Δ) H6:=z10.sub (by ac_nf);have z12:=gY ok (dv z11);have z13:Sep (pt a (ww (R.cad 19) dx2 [("contents",wf c2),("permits",wf d2)])::pt dx2 (.own a)::pt c2 (wr (cs.map wl))::pt d2 (wr (ws.map wn))::aV R c cs ws::Δ) H6:=z12.sub (by ac_nf);exact Sep.push (.t p) (gY ok (dv z13))
def vq {b:Addr}(ro:Ro K R)(hk:5<=k)(z:Sep O H)(p:ag (aP R b x) O Δ)(q:∀ c H',Sep (aP R c x::O) H'->Q (wf c) H'):ae tab R k 19 [wf b] H Q E:=by
 obtain⟨o,z2⟩:=dR (z.pull p);refine vD ro hk z2 (λc H' z3=>q c H' ?_);have z4:=my o z3;have z5:=my o (z4.pull .k1);exact Sep.push (.t p) z5
abbrev pX (R:Rt)(m l s b:Addr)(at_:Int)(ds:List V):av:=bx λdx:Addr=>[pt m (ww (R.cad 18) dx [("deeds",wf l),("store",wf s),("boxes",wf b),("at",wl at_)]),pt dx (.own m),pt l (wr ds)]
def wK {m s b:Addr}(z:Sep (pX R m l s b at_ ds::O) H):∃ dx,Sep (pt m (ww (R.cad 18) dx [("deeds",wf l),("store",wf s),("boxes",wf b),("at",wl at_)])::pt dx (.own m)::pt l (wr ds)::O) H:=iK z
def AS {m s b:Addr}(z:Sep (pt m (ww (R.cad 18) dx [("deeds",wf l),("store",wf s),("boxes",wf b),("at",wl at_)])::pt dx (.own m)::pt l (wr ds)::O) H):Sep (pX R m l s b at_ ds::O) H:=gQ dx z
def DA {m s b:Addr}:Ob R (pX R m l s b at_ ds) m 18 ["deeds","store","boxes","at"]:=by
 rintro H D ⟨dx,D1,D2,_,_,_,⟨_,h⟩,_⟩;exact⟨dx,_,h,rfl⟩
abbrev Fo (R:Rt)(O:List av)(ds:List V):Prop:=∀ v ∈ ds,∃ a r Δ,v=wf a/\ag (mD R a r) O Δ
def vc (r:Rw):tab.oc.contains r.cl=true/\tab.sub.lookup (r.cl,12)=some true:=by
 cases r with
 |lg w=>cases w<;>exact⟨rfl,rfl⟩
 |sp s=>cases s<;>exact⟨rfl,rfl⟩
 |hop n o=>exact⟨rfl,rfl⟩
def ph (ro:Ro K R)(hk:1<=k)(h0:1<=ds.length)(h1:ds.length<=24)(z:Sep O H)(p:ag (pt l (wr ds)) O Δ)(hd:Fo R O ds)(q:∀ H',Sep O H'->Q wp H'):ae tab R k 37 [wf l] H Q E:=by
 delta hX;left;refine cX (t:="list") (Ck (z.get p)) rfl ?_;right;refine ip (z.get p) ?_;right;refine aD (λh=>?_) (λh=>absurd nofun h);left;simp only[ro.g_MOST_ROWS];right;refine aD (λh=>?_) (λh=>absurd nofun h);right;refine C8 (z.get p) ?_;refine kb (xs:=ds) (λj U H=>∃ u v,U=[some (wf l),u,v]/\Sep O H) ?_ ?_ ?_ ?_
 .exact⟨none,none,rfl,z⟩
 .rintro j U H ⟨u,v,rfl,hs⟩;exact hs.get p
 .rintro j x T U H hx ⟨u,v,rfl,hs⟩ hT;obtain⟨a,r,Δ',rfl,hp⟩:=hd x (cr hx);have hs4:=hs.iG (xs:=[wl j,wf a]) hT;obtain⟨dx,fs,e⟩:=IM hs4 (.t hp);left;refine⟨T,_,rfl,.inl (bc.of hs4.atT),rfl,?_⟩;generalize upd H T _=H4 at hs4 e⊢;right;refine Hs e (vc r).1 (b:=true) (vc r).2 ?_;right;exact⟨_,_,rfl,hs4.drop⟩
 .rintro U H ⟨u,v,rfl,hs⟩;exact q _ hs
def mx {n:Int}(hk:2<=k)(h0:0<=at_)(h1:at_<=n)(q:Q wp H):ae tab R k 38 [wl at_,wl n] H Q E:=by
 delta fO;right;refine aK (t:="int") nofun rfl ?_;right;refine aD (λh=>?_) (λh=>absurd h0 h);right;refine aD (λh=>?_) (λh=>absurd h1 h);right;exact q
def wu {m s b:Addr}{cs:List Int}(ro:Ro K R)(hk:6<=k)(n0:1<=ds.length)(n1:ds.length<=24)(h0:0<=at_)(h1:at_<=ds.length){Δl Δs Δb:List av}(pl:ag (pt l (wr ds)) O Δl)(ps:ag (aV R s cs ws) O Δs)(pb:ag (aP R b x) O Δb)(hd:Fo R O ds)
  (z:Sep (pt m (ww (R.cad 18) dx [])::pt dx (.own m)::O) H) (q:∀ l2 s2 b2 H',Sep (pX R m l2 s2 b2 at_ ds::aV R s2 cs ws::aP R b2 x::O) H'->Q wp H'):ae tab R k 40 [wf m,wf l,wf s,wf b,wl at_] H Q E:=by
 delta cQ;right;refine ph ro nofun n0 n1 z (.j2 pl) (λv hv=>by
  obtain⟨a,r,Δ',e,hp⟩:=hd v hv;exact⟨a,r,_,e,.t (.t hp)⟩) (λH1 z1=>?_)
 right;refine ip (z1.get (.j2 pl)) ?_;right;refine mx nofun h0 h1 ?_;right;refine uR z1 (z1.get (.j2 pl)) (λl2 H2 z2=>?_);right;rename_i H3 z3;refine af bj z3 (.j2 (.t ps)) rfl rfl ?_;left;refine vN ro nofun z3 (.j2 (.t ps)) (λs2 H4 z4=>?_);right;rename_i H5 z5;refine af bq z5 (.j2 (.j2 pb)) rfl rfl ?_;left;refine vq ro nofun z5 (.j2 (.j2 pb)) (λb2 H6 z6=>?_);right;rename_i H7 z7 H8 z8;refine q l2 s2 b2 H8 (AS (dx:=dx) ?_);exact z8.sub (by ac_nf)
abbrev kW.bx (x:Bx):kW->Bx
 | .on _ x' _=>x'
 |_=>x
abbrev kW.cs (cs:List Int):kW->List Int
 | .on _ _ cs'=>cs'
 |_=>cs
abbrev Mx (t:Addr):kW->av
 | .on r _ _=>tu t [wl r,wp]
 | .no d c=>bx λte:Addr=>[tu t [wp,wf te],tu te [wn d,wl c]]
 | .nf b _=>bx λte:Addr=>[tu t [wp,wf te],tu te [wn "fit",wn b.nm]]
def CC {de b:Addr}{cs:List Int}(r:Rw)(ro:Ro K R)(hk:9<=k)(z:Sep (aP R b x::aV R a cs ws::mD R de r::O) H)
  (q:∀ t H',Sep (Mx t (fe x cs ws r)::aP R b ((fe x cs ws r).bx x)::aV R a ((fe x cs ws r).cs cs) ws::mD R de r::O) H'->Q (wf t) H'):ae tab R k 39 [wf de,wf b,wf a] H Q E:=by
 obtain⟨f,hf,hd,hst⟩:=C6 r ro;delta uf;right;refine af (Dy r) z .k2 (by cases r with|lg w=>rfl|sp s=>cases s<;>rfl|hop n o=>rfl) hf ?_;left;refine aW (vs':=[wf de,wf b,wf a]) (by show _::(_++dflt _ _ 3)=_;rw[hd];rfl) ?_;refine hst nofun z ?_
 revert q
 cases fe x cs ws r with
 |on n x' cs'=>
  intro q H1 z1;right;rename_i t H3 z3;exact q t H3 z3.toT
 |no d c=>
  intro q e H1 z1;obtain⟨dx,z2⟩:=yQ z1;refine⟨3,_,_,true,z2.at,rfl,rfl,?_⟩;left;refine aM rfl ?_;right;rename_i te H3 z3 t H4 z4;have z5:=(z4.toT.pull .k1).toT;exact q t H4 (gQ te (z5.sub (.cons .k1 (.cons .e (.drop (.drop .refl))))))
 |nf n i=>
  intro q e H1 z1;obtain⟨dx,z2⟩:=yQ z1;refine⟨4,_,_,false,z2.at,rfl,rfl,?_⟩;left;refine au rfl ?_;left;refine⟨4,_,_,true,z2.at,rfl,rfl,?_⟩;left;refine aM rfl ?_;right;rename_i te H3 z3 t H4 z4;have z5:=(z4.toT.pull .k1).toT;exact q t H4 (gQ te (z5.sub (.cons .k1 (.cons .e (.drop (.drop .refl))))))
abbrev gy (R:Rt)(O:List av)(ds:List V)(rs:List Rw):Prop:=ds.length=rs.length/\∀ (i:Nat) (r:Rw),rs[i]? =some r->∃ a Δ,ds[i]? =some (wf a)/\ag (mD R a r) O Δ
variable {rs:List Rw}
def gy.more (h:gy R O ds rs):gy R (A::O) ds rs:=⟨h.1,λi r e=>by
 obtain⟨a,Δ,e2,p⟩:=h.2 i r e;exact⟨a,_,e2,.t p⟩⟩
def gy.all (h:gy R O ds rs):Fo R O ds:=λv hv=>by
 obtain⟨i,hi⟩:=getElem?_of_mem hv;have hl:=(tz.mp hi).1;obtain⟨a,Δ,e2,p⟩:=h.2 i _ (li (by rw[<-h.1];exact hl));rw[hi]at e2;cases e2;exact⟨a,_,Δ,rfl,p⟩
structure LX where
 w:Str
 at_:Int
 x:Bx
 cs:List Int
abbrev mS (rs:List Rw)(at_:Int)(x:Bx)(cs:List Int)(ws:List Str):LX:=match rs[at_.toNat]? with
 |none=>⟨"end",at_,x,cs⟩
 |some r=>match fe x cs ws r with
  | .on n x' cs'=>⟨"on",min (at_+n) rs.length,x',cs'⟩
  |_=>⟨"stop",at_,x,cs⟩
section
variable {m l s b:Addr}{at_:Int}{ds:List V}{rs:List Rw}{x:Bx}{cs:List Int}{ws:List Str}
def AE (hk:1<=k)(z:Sep O H)(p:ag (pX R m l s b at_ ds) O Δ)(q:Q (.bl (decide (at_=ds.length))) H):ae tab R k 41 [wf m] H Q E:=by
 delta dW;obtain⟨dx,z1⟩:=wK (z.pull p);right;have e:ef (wl at_) (wl (ds.length:Int))=decide (at_=(ds.length:Int)):=by
  show(at_ ==(ds.length:Int))=_
  by_cases h:at_=(ds.length:Int)
  .rw[decide_eq_true h,beq_iff_eq];exact h
  .rw[decide_eq_false h];simpa using h
 rw[e];exact q
def wJ (ro:Ro K R)(hk:10<=k)(h0:0<=at_)(h1:at_<=ds.length)(hd:gy R O ds rs)(z:Sep (pX R m l s b at_ ds::aV R s cs ws::aP R b x::O) H)
  (q:∀ H',Sep (pX R m l s b (mS rs at_ x cs ws).at_ ds::aV R s (mS rs at_ x cs ws).cs ws::aP R b (mS rs at_ x cs ws).x::O) H'->Q (wn (mS rs at_ x cs ws).w) H'):ae tab R k 42 [wf m,wf s] H Q E:=by
 delta c4;unfold mS at q;right;refine af DA z .e rfl rfl ?_;left;refine AE nofun z .e ?_
 by_cases he:at_=ds.length
 .rw[decide_eq_true he];right;rw[List.getElem?_eq_none (by have:=hd.1;omega)]at q;exact q H z
 .rw[decide_eq_false he];have hlt:at_.toNat<rs.length:=by have:=hd.1;omega
  have er:rs[at_.toNat]? =some rs[at_.toNat]:=li hlt;generalize rs[at_.toNat]=r at er;obtain⟨de,Δ,e2,p⟩:=hd.2 _ _ er;rw[er]at q;dsimp only at q;obtain⟨dx,z1⟩:=wK z;right;refine aJ (i:=at_) (by grind) (aA h0 e2) ?_;right;have z2:Sep (aP R b x::aV R s cs ws::mD R de r::pt m (ww (R.cad 18) dx [("deeds",wf l),("store",wf s),("boxes",wf b),("at",wl at_)])::pt dx (.own m)::pt l (wr ds)::Δ) H:=z1.sub (.cons (.t .k3) (.cons .k3 (.cons (.j2 (.t p)) .refl)));refine CC r ro nofun z2 (λt H2 z3=>?_);clear z z1 z2
  revert q z3
  cases fe x cs ws r with
  |on n x' cs'=>
   intro q z3;have z3:Sep (tu t [wl n,wp]::aP R b x'::aV R s cs' ws::mD R de r::pt m (ww (R.cad 18) dx [("deeds",wf l),("store",wf s),("boxes",wf b),("at",wl at_)])::pt dx (.own m)::pt l (wr ds)::Δ) H2:=z3;right;refine iZ ?_;left;refine au rfl ?_;right;rename_i H4 z4;rw[hd.1]at z4;refine q H4 (AS (dx:=dx) ?_);exact(z4.sub (Γ':=mD R de r::pt m _::pt dx (.own m)::pt l (wr ds)::aV R s cs' ws::aP R b x'::Δ) (by ac_nf)).push (.j2 (.j2 (.t p)))
  |no d c=>
   intro q z3;obtain⟨te,z4⟩:=iK z3;have z4:Sep (tu t [wp,wf te]::tu te [wn d,wl c]::aP R b x::aV R s cs ws::mD R de r::pt m (ww (R.cad 18) dx [("deeds",wf l),("store",wf s),("boxes",wf b),("at",wl at_)])::pt dx (.own m)::pt l (wr ds)::Δ) H2:=z4;right;refine iZ ?_;left;refine aM rfl ?_;refine q H2 (AS (dx:=dx) ?_);exact(z4.sub (Γ':=mD R de r::pt m _::pt dx (.own m)::pt l (wr ds)::aV R s cs ws::aP R b x::Δ) (by ac_nf)).push (.j2 (.j2 (.t p)))
  |nf n i=>
   intro q z3;obtain⟨te,z4⟩:=iK z3;have z4:Sep (tu t [wp,wf te]::tu te [wn "fit",wn n.nm]::aP R b x::aV R s cs ws::mD R de r::pt m (ww (R.cad 18) dx [("deeds",wf l),("store",wf s),("boxes",wf b),("at",wl at_)])::pt dx (.own m)::pt l (wr ds)::Δ) H2:=z4;right;refine iZ ?_;left;refine aM rfl ?_;refine q H2 (AS (dx:=dx) ?_);exact(z4.sub (Γ':=mD R de r::pt m _::pt dx (.own m)::pt l (wr ds)::aV R s cs ws::aP R b x::Δ) (by ac_nf)).push (.j2 (.j2 (.t p)))
def Cj (ro:Ro K R)(hk:11<=k)(h0:0<=at_)(h1:at_<=ds.length)(hd:gy R O ds rs)(z:Sep (pX R m l s b at_ ds::aV R s cs ws::aP R b x::O) H)
  (q:∀ H',Sep (pX R m l s b (mS rs at_ x cs ws).at_ ds::aV R s (mS rs at_ x cs ws).cs ws::aP R b (mS rs at_ x cs ws).x::O) H'->Q (wn (mS rs at_ x cs ws).w) H'):ae tab R k 43 [wf m] H Q E:=by
 delta fj;obtain⟨dx,z1⟩:=wK z;right;refine af DA z .e rfl rfl ?_;right;refine aW (vs':=[_,_]) rfl ?_;exact wJ ro nofun h0 h1 hd z q
def yt (ro:Ro K R)(hk:2<=k)(z:Sep (pX R m l s b at_ ds::aV R s cs ws::aP R b x::O) H)
  (q:∀ t t1 l1 H',Sep (pt t (wv [wl at_,wf t1,wf l1])::pt l1 (wr (cs.map wl))::tu t1 (x.ls.map wl)::pX R m l s b at_ ds::aV R s cs ws::aP R b x::O) H'->Q (wf t) H'):ae tab R k 44 [wf m] H Q E:=by
 delta d6;obtain⟨dx,z1⟩:=wK z;right;refine af bq z .k2 rfl rfl ?_;left;refine A6 ro nofun z .k2 (λt1 H1 z2=>?_);obtain⟨dx,z3⟩:=wK (z2.pull .k1);right;refine af bj z2 .k2 rfl rfl ?_;left;refine ug nofun z2 .k2 (λl1 H2 z4=>?_);right;rename_i t H3 z5;exact q t t1 l1 H3 z5
end
abbrev AB (x:Bx):Rw->List Int
 | .lg w=>mR w x
 | .sp (.read _)=>[x.h]
 |_=>[]
abbrev Az (x:Bx):Rw->List Int
 | .lg w=>vA w x
 | .sp (.write _)=>[x.t]
 |_=>[]
def g7 {sp:Addr}(r:Rw)(hk:1<=k)(z:Sep (tu sp r.tl::ao d x::O) H)
  (q:∀ t l1 l2 H',Sep (tu t [wf l1,wf l2]::pt l1 (wr ((AB x r).map wl))::pt l2 (wr ((Az x r).map wl))::tu sp r.tl::ao d x::O) H'->Q (wf t) H'):ae tab R k 102 [wf sp,wf d] H Q E:=by
 obtain⟨h,t,l,w,s,m⟩:=x;delta gE;have fi:∀ (L P:List Int){p l1 l2:Addr}{H3:Hp},AB ⟨h,t,l,w,s,m⟩ r=L->Az ⟨h,t,l,w,s,m⟩ r=P->Sep (pt p (wv [wf l1,wf l2])::pt l2 (wr (P.map wl))::pt l1 (wr (L.map wl))::tu sp r.tl::ao d ⟨h,t,l,w,s,m⟩::O) H3->Q (wf p) H3:=by
  intro L P p l1 l2 H3 e1 e2 z3;refine q p l1 l2 H3 ?_;rw[e1,e2];have z4:=z3.toT;walk_at "sp"
 clear q;cases r with
 |lg wd=>
  have L0:l≠0->AB ⟨h,t,l,w,s,m⟩ (.lg wd)=CP h t l wd:=λe=>if_neg e
  have P0:l≠0->Az ⟨h,t,l,w,s,m⟩ (.lg wd)=CK h t l wd:=λe=>if_neg e
  have L1:l=0->AB ⟨h,t,l,w,s,m⟩ (.lg wd)=[]:=λe=>if_pos e
  have P1:l=0->Az ⟨h,t,l,w,s,m⟩ (.lg wd)=[]:=λe=>if_pos e
  cases wd
  case turn=>
   walk_at "wd"
   repeat walk_at "sc"
   refine aG (λe=>?_) (λe=>?_)
   .walk_at "wd";rename_i l1 H1 z1 l2 H2 z2 p H3 z3;exact fi [] [] (L1 e) (P1 e) z3
   walk_at "wd"
   repeat walk_at "sc"
   refine aG (λe2=>?_) (λe2=>?_)
   .walk_at "wd";rename_i l1 H1 z1 l2 H2 z2 p H3 z3;exact fi [] [] ((L0 e).trans (if_pos e2)) ((P0 e).trans (if_pos e2)) z3
   .walk_at "wd"
    repeat walk_at "sc"
    rename_i l1 H1 z1 l2 H2 z2 p H3 z3;exact fi [h,h+l-1] [h,h+l-1] ((L0 e).trans (if_neg e2)) ((P0 e).trans (if_neg e2)) z3
  case shift=>
   walk_at "wd"
   repeat walk_at "sc"
   refine aG (λe=>?_) (λe=>?_)
   .walk_at "wd";rename_i l1 H1 z1 l2 H2 z2 p H3 z3;exact fi [] [] (L1 e) (P1 e) z3
   walk_at "wd"
   repeat walk_at "sc"
   walk_at "wd";dsimp only;refine aJ (by grind) L7 ?_
   by_cases e2:t<=h
   .rw[if_pos (decide_eq_true e2)];walk_at "wd";rename_i l1 H1 z1 l2 H2 z2 p H3 z3;have z4:Sep (pt p (wv [wf l1,wf l2])::pt l2 (wr [wl (t+0)])::pt l1 (wr [wl (h+0)])::tu sp (Rw.tl (.lg .shift))::ao d ⟨h,t,l,w,s,m⟩::O) H3:=by walk_at "sp"
    exact fi [h+0] [t+0] ((L0 e).trans (if_pos e2)) ((P0 e).trans (if_pos e2)) z4
   .rw[if_neg (by simpa using e2)];walk_at "wd";rename_i l1 H1 z1 l2 H2 z2 p H3 z3;have z4:Sep (pt p (wv [wf l1,wf l2])::pt l2 (wr [wl (t+(l-1))])::pt l1 (wr [wl (h+(l-1))])::tu sp (Rw.tl (.lg .shift))::ao d ⟨h,t,l,w,s,m⟩::O) H3:=by walk_at "sp"
    exact fi [h+(l-1)] [t+(l-1)] ((L0 e).trans (if_neg e2)) ((P0 e).trans (if_neg e2)) z4
  all_goals
   walk_at "wd"
   repeat walk_at "sc"
   refine aG (λe=>?_) (λe=>?_)
   .walk_at "wd";rename_i l1 H1 z1 l2 H2 z2 p H3 z3;exact fi [] [] (L1 e) (P1 e) z3
   walk_at "wd"
   repeat walk_at "sc"
   rename_i l1 H1 z1 l2 H2 z2 p H3 z3;exact fi _ _ (L0 e) (P0 e) z3
 |sp s'=>
  cases s'
  case read|write=>
   walk_at "wd"
   repeat walk_at "sc"
   rename_i l1 H1 z1 l2 H2 z2 p H3 z3;exact fi _ _ rfl rfl z3
  all_goals
   walk_at "wd"
   repeat walk_at "sc"
   refine aG (λe=>?_) (λe=>?_)
   .walk_at "wd";rename_i l1 H1 z1 l2 H2 z2 p H3 z3;exact fi [] [] rfl rfl z3
   walk_at "wd"
   repeat walk_at "sc"
   rename_i l1 H1 z1 l2 H2 z2 p H3 z3;exact fi [] [] rfl rfl z3
 |hop n o=>
  walk_at "wd"
  repeat walk_at "sc"
  refine aG (λe=>?_) (λe=>?_)
  .walk_at "wd";rename_i l1 H1 z1 l2 H2 z2 p H3 z3;exact fi [] [] rfl rfl z3
  walk_at "wd"
  repeat walk_at "sc"
  rename_i l1 H1 z1 l2 H2 z2 p H3 z3;exact fi [] [] rfl rfl z3
def fz {sp lv t l1 l2:Addr}{tl:List V}{ls ps:List Int}{D:Ends}{E:St->XK}{u:Option V}(hk:2<=k)(z1:Sep (tu t [wf l1,wf l2]::pt l1 (wr (ls.map wl))::pt l2 (wr (ps.map wl))::tu sp tl::ao d x::pt lv (wr (ws.map wn))::O) H)
  (q0:bF ws ls ps=none->∀ H',Sep (tu sp tl::ao d x::pt lv (wr (ws.map wn))::O) H'->D.rt wp H')
  (q1:∀ dd c,bF ws ls ps=some (dd,c)->∀ t H',Sep (pt t (wv [wn dd,wl c,wl 0])::tu sp tl::ao d x::pt lv (wr (ws.map wn))::O) H'->D.rt (wf t) H'):
  wB (hU 2 cf.body) ⟨tab,R,ae tab R (k-1),true⟩ D E [some (wf sp),some (wf d),some (wf lv),some (wf l1),some (wf l2),u] H:=by
 right;refine dH (xs:=ls.map wl) (λj U H=>∃ v,U=[some (wf sp),some (wf d),some (wf lv),some (wf l1),some (wf l2),v]/\(∀ i x,i<j->ls[i]? =some x->aj ws "look" x=true)/\Sep (tu t [wf l1,wf l2]::pt l1 (wr (ls.map wl))::pt l2 (wr (ps.map wl))::tu sp tl::ao d x::pt lv (wr (ws.map wn))::O) H) ?_ ?_ ?_ ?_
 .exact⟨_,rfl,λi x hi=>absurd hi nofun,z1⟩
 .rintro j U H ⟨v,rfl,_,hs⟩;exact aU.of (by grind)
 .rintro j y U H hx ⟨v,rfl,hb,hs⟩;rw[io]at hx;obtain⟨c,hc,rfl⟩:=nw.mp hx;right;refine x9 nofun hs (by symm) ?_;right;refine bT (λhm=>?_) (λhm=>?_)
  .right;refine⟨_,rfl,λi x hi hxx=>?_,hs⟩
   by_cases e:i=j
   .subst e;rw[hc]at hxx;cases hxx;exact hm
   .exact hb i x nofun hxx
  .right;rename_i p H2 z2;refine q1 "look" c ?_ p H2 ?_
   .unfold bF;rw[pG hb hc hm]
   .walk_at "sp"
 .rintro U H ⟨v,rfl,hb,hs⟩;have e0:aY ws "look" ls=none:=kZ λc hc=>by
   obtain⟨i,hi⟩:=List.mem_iff_getElem?.mp hc;have:=(tz.mp hi).1;exact hb i c (by rw[ce];exact this) hi
  right;refine dH (xs:=ps.map wl) (λj U H=>∃ v,U=[some (wf sp),some (wf d),some (wf lv),some (wf l1),some (wf l2),v]/\(∀ i x,i<j->ps[i]? =some x->aj ws "put" x=true)/\Sep (tu t [wf l1,wf l2]::pt l1 (wr (ls.map wl))::pt l2 (wr (ps.map wl))::tu sp tl::ao d x::pt lv (wr (ws.map wn))::O) H) ?_ ?_ ?_ ?_
  .exact⟨_,rfl,λi x hi=>absurd hi nofun,hs⟩
  .rintro j U H ⟨v,rfl,_,hs⟩;exact aU.of (by grind)
  .rintro j y U H hx ⟨v,rfl,hb,hs⟩;rw[io]at hx;obtain⟨c,hc,rfl⟩:=nw.mp hx;right;refine x9 nofun hs (by symm) ?_;right;refine bT (λhm=>?_) (λhm=>?_)
   .right;refine⟨_,rfl,λi x hi hxx=>?_,hs⟩
    by_cases e:i=j
    .subst e;rw[hc]at hxx;cases hxx;exact hm
    .exact hb i x nofun hxx
   .right;rename_i p H2 z2;refine q1 "put" c ?_ p H2 ?_
    .unfold bF;rw[e0];exact pG hb hc hm
    .walk_at "sp"
  .rintro U H ⟨v,rfl,hb2,hs⟩;right;refine q0 ?_ H (by walk_at "sp");unfold bF;rw[e0];exact kZ λc hc=>by
    obtain⟨i,hi⟩:=List.mem_iff_getElem?.mp hc;have:=(tz.mp hi).1;exact hb2 i c (by rw[ce];exact this) hi
abbrev kW.tl:kW->List V
 | .on r _ _=>[wn "on",wl r,wl 0]
 | .no d c=>[wn d,wl c,wl 0]
 | .nf b i=>[wn "fit",wn b.nm,wl i]
def bS {sp lv:Addr}(r:Rw)(hk:2<=k)(hr:∀ b,r=.sp (.write b)->fM (wl (x.g b))=true) (z:Sep (tu sp r.tl::ao d x::pt lv (wr (ws.map wn))::O) H)
  (q0:bF ws (AB x r) (Az x r)=none->∀ H',Sep (tu sp r.tl::ao d x::pt lv (wr (ws.map wn))::O) H'->Q wp H')
  (q1:∀ dd c,bF ws (AB x r) (Az x r)=some (dd,c)->∀ t H',Sep (pt t (wv [wn dd,wl c,wl 0])::tu sp r.tl::ao d x::pt lv (wr (ws.map wn))::O) H'->Q (wf t) H'):ae tab R k 104 [wf sp,wf d,wf lv] H Q E:=by
 delta cf;cases r with
 |sp s=>
  cases s
  case write b=>
   have hc:(decide (0<=x.g b)&&decide (x.g b<=1000000000))=true:=hr b rfl;have hc:0<=x.g b/\x.g b<=1000000000:=by simpa using hc
   right
   repeat walk_at "sc"
   refine ma z .k1 ?_;right;refine aD (λh0=>?_) (λh0=>absurd hc.1 h0);right;rw[mi];refine aD (λh0=>?_) (λh0=>absurd hc.2 h0);right;refine g7 (.sp (.write b)) nofun z (λt l1 l2 H1 z1=>?_);right;refine⟨t,_,rfl,.inl (bc.of z1.atT),rfl,?_⟩;exact fz hk z1 q0 q1
  all_goals
   right
   repeat walk_at "sc"
   refine g7 (.sp _) nofun z (λt l1 l2 H1 z1=>?_);right;refine⟨t,_,rfl,.inl (bc.of z1.atT),rfl,?_⟩;exact fz hk z1 q0 q1
 |lg w=>
  cases w
  all_goals
   right
   repeat walk_at "sc"
   refine g7 (.lg _) nofun z (λt l1 l2 H1 z1=>?_);right;refine⟨t,_,rfl,.inl (bc.of z1.atT),rfl,?_⟩;exact fz hk z1 q0 q1
 |hop n o=>
  right
  repeat walk_at "sc"
  refine g7 (.hop n o) nofun z (λt l1 l2 H1 z1=>?_);right;refine⟨t,_,rfl,.inl (bc.of z1.atT),rfl,?_⟩;exact fz hk z1 q0 q1
def wg {sp lv:Addr}{b:Bn}(hk:2<=k)(hb:fM (wl (x.g b))=false)(z:Sep (tu sp (Rw.tl (.sp (.write b)))::ao d x::pt lv (wr (ws.map wn))::O) H)
  (q:∀ t H',Sep (pt t (wv [wn "fit",wn b.nm,wl (x.g b)])::tu sp (Rw.tl (.sp (.write b)))::ao d x::pt lv (wr (ws.map wn))::O) H'->Q (wf t) H'):ae tab R k 104 [wf sp,wf d,wf lv] H Q E:=by
 delta cf;have hc:(decide (0<=x.g b)&&decide (x.g b<=1000000000))=false:=hb;have hc:0<=x.g b->¬ x.g b<=1000000000:=by simpa using hc
 right
 repeat walk_at "sc"
 refine ma z .k1 ?_;right;refine aD (λh0=>?_) (λh0=>?_)
 .right;rw[mi];refine aD (λh1=>absurd h1 (hc h0)) (λh1=>?_);right;refine ma z .k1 ?_;right;rename_i t H1 z1;exact q t H1 z1
 .right;refine ma z .k1 ?_;right;rename_i t H1 z1;exact q t H1 z1
def zJ {sp p lv:Addr}{cs:List Int}(r:Rw)(hk:3<=k)(hr:r.ok)(hx:0<=x.l)(hl:cs.length=ws.length)(z:Sep (tu sp r.tl::ao d x::pt p (wr (cs.map wl))::pt lv (wr (ws.map wn))::O) H)
  (q:∀ td H',Sep (pt td (wv (fe x cs ws r).tl)::tu sp r.tl::ao d ((fe x cs ws r).bx x)::pt p (wr (((fe x cs ws r).cs cs).map wl))::pt lv (wr (ws.map wn))::O) H'->Q (wf td) H'):ae tab R k 105 [wf sp,wf d,wf p,wf lv] H Q E:=by
 delta jB;have z0:Sep (tu sp r.tl::ao d x::pt lv (wr (ws.map wn))::pt p (wr (cs.map wl))::O) H:=z.sub (by ac_nf);right;cases r with
 |lg w=>
  refine bS (.lg w) nofun (λb e=>by cases e) z0 (λhb H1 z1=>?_) (λdd c hb t H1 z1=>?_)
  .right;refine bb ?_;left;refine au rfl ?_;right;rename_i tp H2 z2;refine fL (bc.of z2.at) rfl rfl ?_;left;refine au (by cases w<;>decide+kernel) ?_;right;refine au (by cases w<;>decide+kernel) ?_;right;refine au (by cases w<;>decide+kernel) ?_;right;refine C4 w (O:=pt lv (wr (ws.map wn))::tu sp (Rw.tl (.lg w))::O) nofun hx hl hb (z2.sub (by ac_nf)) ?_;have q:∀ td H',Sep (pt td (wv (ofM (cT w x cs ws)).tl)::tu sp (Rw.tl (.lg w))::ao d ((ofM (cT w x cs ws)).bx x)::pt p (wr (((ofM (cT w x cs ws)).cs cs).map wl))::pt lv (wr (ws.map wn))::O) H'->Q (wf td) H':=q
   revert q
   cases cT w x cs ws with
   |no dd c=>exact λ_=>True.intro
   |on n x' cs'=>
    intro q H3 z3;right;rename_i t H4 z4;exact q t H4 (z4.sub (.cons .e (.cons .k3 .refl)))
  .have e:fe x cs ws (.lg w)=.no dd c:=congrArg ofM (Fx hx hb);rw[e]at q;right;refine bb ?_;left;refine aM rfl ?_;left;exact q t H1 (z1.sub (.cons .e (.cons .e (.cons .e (.cons .k1 .refl)))))
 |hop n o=>
  refine bS (.hop n o) nofun (λb e=>by cases e) z0 (λhb H1 z1=>?_) (λdd c hb t H1 z1=>by cases hb);right;refine bb ?_;left;refine au rfl ?_;right;rename_i tp H2 z2;refine fL (bc.of z2.at) rfl rfl ?_;left;refine au (by decide+kernel) ?_;right
  repeat walk_at "sc"
  have hn:∀ c:Bool,qz n (b2i c):=λc=>by cases c<;>(unfold qz b2i;have:=hr.1;omega)
  refine iZ ?_;cases o with
  |none=>
   left;refine aM rfl ?_;right;refine nV ?_;left;refine⟨hn true,?_⟩;right;rename_i t H4 z4;have e:1+n*b2i true=1+n:=by rw[show b2i true=1 from rfl,Int.mul_one]
   rw[e]at z4;exact q t H4 (z4.sub (.cons .e (.cons .k1 (.cons .k1 (.cons .k2 (.cons .k1 (.drop .refl)))))))
  |some i=>
   left;refine au rfl ?_;right;refine ma (n:=.m) z2 (by symm) ?_;right;refine nV ?_;left;refine⟨hn _,?_⟩;right;rename_i t H4 z4;have e:1+n*b2i (ef (oV (some i)) (wl (x.g Bn.m)))=if i=x.m then 1+n else 1:=by
    show 1+n*b2i (i ==x.m)=_
    by_cases h:i=x.m
    .rw[if_pos h,show(i ==x.m)=true by simpa using h,show b2i true=1 from rfl,Int.mul_one]
    .rw[if_neg h,show(i ==x.m)=false by simpa using h,show b2i false=0 from rfl,Int.mul_zero,Int.add_zero]
   rw[e]at z4;exact q t H4 (z4.sub (.cons .e (.cons .k1 (.cons .k1 (.cons .k2 (.cons .k1 (.drop .refl)))))))
 |sp s=>
  have q:∀ td H',Sep (pt td (wv (jX (jN x cs ws s)).tl)::tu sp s.tl::ao d ((jX (jN x cs ws s)).bx x)::pt p (wr (((jX (jN x cs ws s)).cs cs).map wl))::pt lv (wr (ws.map wn))::O) H'->Q (wf td) H':=q;cases s with
  |set n i=>
   have q:∀ td H',Sep (pt td (wv (jX (bt x cs n i)).tl)::tu sp (Sp.tl (.set n i))::ao d ((jX (bt x cs n i)).bx x)::pt p (wr (((jX (bt x cs n i)).cs cs).map wl))::pt lv (wr (ws.map wn))::O) H'->Q (wf td) H':=q;refine bS (.sp (.set n i)) nofun (λb e=>by cases e) z0 (λhb H1 z1=>?_) (λdd c hb t H1 z1=>by cases hb);right;refine bb ?_;left;refine au rfl ?_;right;rename_i tp H2 z2;refine fL (bc.of z2.at) rfl rfl ?_;left;refine aM (by decide+kernel) ?_;right
   repeat walk_at "sc"
   refine kj (n:=n) (i:=i) nofun ?_;cases hf:bg n (i) with
   |false=>
    rw[bt,if_neg (by rw[hf];exact Bool.false_ne_true)]at q;right;rename_i td H3 z3;exact q td H3 (z3.sub (.cons .e (.cons .k1 (.cons .k1 (.cons .k2 (.cons .k1 (.drop .refl)))))))
   |true=>
    rw[bt,if_pos hf]at q;right;refine A0 (n:=n) (i:=i) z2 (by ac_rfl) (λH3 z3=>?_);right;rename_i td H4 z4;exact q td H4 (z4.sub (.cons .e (.cons .k1 (.cons .k1 (.cons .k2 (.cons .k1 (.drop .refl)))))))
  |add n i=>
   have q:∀ td H',Sep (pt td (wv (jX (bt x cs n (x.g n+i))).tl)::tu sp (Sp.tl (.add n i))::ao d ((jX (bt x cs n (x.g n+i))).bx x)::pt p (wr (((jX (bt x cs n (x.g n+i))).cs cs).map wl))::pt lv (wr (ws.map wn))::O) H'->Q (wf td) H':=q;refine bS (.sp (.add n i)) nofun (λb e=>by cases e) z0 (λhb H1 z1=>?_) (λdd c hb t H1 z1=>by cases hb);right;refine bb ?_;left;refine au rfl ?_;right;rename_i tp H2 z2;refine fL (bc.of z2.at) rfl rfl ?_;left;refine aM (by decide+kernel) ?_;right
   repeat walk_at "sc"
   refine ma (n:=n) z2 (by symm) ?_;right
   repeat walk_at "sc"
   refine kj (n:=n) (i:=x.g n+i) nofun ?_;cases hf:bg n (x.g n+i) with
   |false=>
    rw[bt,if_neg (by rw[hf];exact Bool.false_ne_true)]at q;right;rename_i td H3 z3;exact q td H3 (z3.sub (.cons .e (.cons .k1 (.cons .k1 (.cons .k2 (.cons .k1 (.drop .refl)))))))
   |true=>
    rw[bt,if_pos hf]at q;right;refine A0 (n:=n) (i:=x.g n+i) z2 (by ac_rfl) (λH3 z3=>?_);right;rename_i td H4 z4;exact q td H4 (z4.sub (.cons .e (.cons .k1 (.cons .k1 (.cons .k2 (.cons .k1 (.drop .refl)))))))
  |take n m=>
   have q:∀ td H',Sep (pt td (wv (jX (bt x cs n (x.g m))).tl)::tu sp (Sp.tl (.take n m))::ao d ((jX (bt x cs n (x.g m))).bx x)::pt p (wr (((jX (bt x cs n (x.g m))).cs cs).map wl))::pt lv (wr (ws.map wn))::O) H'->Q (wf td) H':=q;refine bS (.sp (.take n m)) nofun (λb e=>by cases e) z0 (λhb H1 z1=>?_) (λdd c hb t H1 z1=>by cases hb);right;refine bb ?_;left;refine au rfl ?_;right;rename_i tp H2 z2;refine fL (bc.of z2.at) rfl rfl ?_;left;refine aM (by decide+kernel) ?_;right
   repeat walk_at "sc"
   refine ma (n:=m) z2 (by symm) ?_;right
   repeat walk_at "sc"
   refine kj (n:=n) (i:=x.g m) nofun ?_;cases hf:bg n (x.g m) with
   |false=>
    rw[bt,if_neg (by rw[hf];exact Bool.false_ne_true)]at q;right;rename_i td H3 z3;exact q td H3 (z3.sub (.cons .e (.cons .k1 (.cons .k1 (.cons .k2 (.cons .k1 (.drop .refl)))))))
   |true=>
    rw[bt,if_pos hf]at q;right;refine A0 (n:=n) (i:=x.g m) z2 (by ac_rfl) (λH3 z3=>?_);right;rename_i td H4 z4;exact q td H4 (z4.sub (.cons .e (.cons .k1 (.cons .k1 (.cons .k2 (.cons .k1 (.drop .refl)))))))
  |read n=>
   have q:∀ td H',Sep (pt td (wv (jX (if aj ws "look" x.h=true then bt x cs n (gt cs x.h) else .no "look" x.h)).tl)::tu sp (Sp.tl (.read n))::ao d ((jX (if aj ws "look" x.h=true then bt x cs n (gt cs x.h) else .no "look" x.h)).bx x)::pt p (wr (((jX (if aj ws "look" x.h=true then bt x cs n (gt cs x.h) else .no "look" x.h)).cs cs).map wl))::pt lv (wr (ws.map wn))::O) H'->Q (wf td) H':=q;refine bS (.sp (.read n)) nofun (λb e=>by cases e) z0 (λhb H1 z1=>?_) (λdd c hb t H1 z1=>?_)
   .obtain⟨hm,_⟩:=aF (gX hb).1;have hm:aj ws "look" x.h=true:=hm;have g:=ar hm;rw[if_pos hm]at q;right;refine bb ?_;left;refine au rfl ?_;right;rename_i tp H2 z2;refine fL (bc.of z2.at) rfl rfl ?_;left;refine aM (by decide+kernel) ?_;right
    repeat walk_at "sc"
    refine ma (n:=.h) z2 (by symm) ?_;right;refine aJ (i:=x.h) (by grind) (iy g.1 nofun) ?_;right
    repeat walk_at "sc"
    refine kj (n:=n) (i:=gt cs x.h) nofun ?_;cases hf:bg n (gt cs x.h) with
    |false=>
     rw[bt,if_neg (by rw[hf];exact Bool.false_ne_true)]at q;right;rename_i td H3 z3;exact q td H3 (z3.sub (.cons .e (.cons .k1 (.cons .k1 (.cons .k2 (.cons .k1 (.drop .refl)))))))
    |true=>
     rw[bt,if_pos hf]at q;right;refine A0 (n:=n) (i:=gt cs x.h) z2 (by ac_rfl) (λH3 z3=>?_);right;rename_i td H4 z4;exact q td H4 (z4.sub (.cons .e (.cons .k1 (.cons .k1 (.cons .k2 (.cons .k1 (.drop .refl)))))))
   .have hm:aj ws "look" x.h=false/\dd="look"/\c=x.h:=by
     cases e:aj ws "look" x.h with
     |true=>rw[show bF ws (AB x (.sp (.read n))) (Az x (.sp (.read n)))=none by show bF ws [x.h] []=none;unfold bF aY;rw[if_pos e];rfl]at hb;cases hb
     |false=>
      rw[show bF ws (AB x (.sp (.read n))) (Az x (.sp (.read n)))=some (("look":Str),x.h) by show bF ws [x.h] []=_;unfold bF aY;rw[if_neg (nt e)]]at hb;cases hb;exact⟨rfl,rfl,rfl⟩
    obtain⟨e1,rfl,rfl⟩:=hm;rw[if_neg (nt e1)]at q;right;refine bb ?_;left;refine aM rfl ?_;left;exact q t H1 (z1.sub (.cons .e (.cons .e (.cons .e (.cons .k1 .refl)))))
  |write n=>
   have q:∀ td H',Sep (pt td (wv (jX (if fM (wl (x.g n))=true then(if aj ws "put" x.t=true then .on x (cs.set x.t.toNat (x.g n)) else .no "put" x.t) else .nf n (x.g n))).tl)::tu sp (Sp.tl (.write n))::ao d ((jX (if fM (wl (x.g n))=true then(if aj ws "put" x.t=true then .on x (cs.set x.t.toNat (x.g n)) else .no "put" x.t) else .nf n (x.g n))).bx x)::pt p (wr (((jX (if fM (wl (x.g n))=true then(if aj ws "put" x.t=true then .on x (cs.set x.t.toNat (x.g n)) else .no "put" x.t) else .nf n (x.g n))).cs cs).map wl))::pt lv (wr (ws.map wn))::O) H'->Q (wf td) H':=q;cases hc:fM (wl (x.g n)) with
   |false=>
    rw[if_neg (nt hc)]at q;refine wg nofun hc z0 (λt H1 z1=>?_);right;refine bb ?_;left;refine aM rfl ?_;left;exact q t H1 (z1.sub (.cons .e (.cons .e (.cons .e (.cons .k1 .refl)))))
   |true=>
    rw[if_pos hc]at q;refine bS (.sp (.write n)) nofun (λb e=>by cases e;exact hc) z0 (λhb H1 z1=>?_) (λdd c hb t H1 z1=>?_)
    .have hm:aj ws "put" x.t=true:=(aF (gX hb).2).1;have g:=ar hm;rw[if_pos hm]at q;right;refine bb ?_;left;refine au rfl ?_;right;rename_i tp H2 z2;refine fL (bc.of z2.at) rfl rfl ?_;left;refine au (by decide+kernel) ?_;right
     repeat walk_at "sc"
     refine ma (n:=n) z2 (by symm) ?_;right;refine ma (n:=.t) z2 (by symm) ?_;left;refine dA (i:=x.t) z2 (by ac_rfl) (cp g.1 (by rw[ce];omega)) cJ (λH3 z3=>?_);right;rename_i td H4 z4;exact q td H4 (z4.sub (.cons .e (.cons .k1 (.cons .k1 (.cons .k2 (.cons .k1 (.drop .refl)))))))
    .have hm:aj ws "put" x.t=false/\dd="put"/\c=x.t:=by
      cases e:aj ws "put" x.t with
      |true=>rw[show bF ws (AB x (.sp (.write n))) (Az x (.sp (.write n)))=none by show bF ws [] [x.t]=none;unfold bF aY;dsimp only;unfold aY;rw[if_pos e]]at hb;cases hb
      |false=>
       rw[show bF ws (AB x (.sp (.write n))) (Az x (.sp (.write n)))=some (("put":Str),x.t) by show bF ws [] [x.t]=_;unfold bF aY;dsimp only;unfold aY;rw[if_neg (nt e)]]at hb;cases hb;exact⟨rfl,rfl,rfl⟩
     obtain⟨e1,rfl,rfl⟩:=hm;rw[if_neg (nt e1)]at q;right;refine bb ?_;left;refine aM rfl ?_;left;exact q t H1 (z1.sub (.cons .e (.cons .e (.cons .e (.cons .k1 .refl)))))
abbrev rG (v:V):Prop:=∃ b:Bn,v=wn b.nm
def yN {t:Addr}(r:Rw)(ro:Ro K R)(hk:5<=k)(ok:r.ok)(z:Sep (tu t r.tl::O) H)(q:∀ d H',Sep (mD R d r::tu t r.tl::O) H'->Q (wf d) H'):ae tab R k 99 [wf t] H Q E:=by
 delta ja;cases r with
 |lg w=>
  have f:∀ x ∈ ([("set":Str),"add","take","read","write","hop"]),ef (wn w.s) (wn x)=false:=by cases w<;>decide+kernel
  right;refine au (f "set" (by decide)) ?_;right;refine au (f "add" (by decide)) ?_;right;refine au (f "take" (by decide)) ?_;right;refine au (f "read" (by decide)) ?_;right;refine au (f "write" (by decide)) ?_;right;refine au (f "hop" (by decide)) ?_;right;exact EX w nofun z q
 |hop n o=>
  right
  repeat walk_at "sc"
  intro d dx g1 g2 g3;exact Ig ro nofun ok.1.1 ok.1.2 ok.2 (gJ z g1 g2 g3) (λH2 z2=>⟨rfl,q d H2 z2⟩)
 |sp s=>
  cases s with
  |set n i=>
   right
   repeat walk_at "sc"
   intro d dx g1 g2 g3;exact Jm ro nofun ok.1 ok.2 (gJ z g1 g2 g3) (λH2 z2=>⟨rfl,q d H2 z2⟩)
  |add n i=>
   right
   repeat walk_at "sc"
   intro d dx g1 g2 g3;exact Im ro nofun ok.1 ok.2 (gJ z g1 g2 g3) (λH2 z2=>⟨rfl,q d H2 z2⟩)
  |take n m=>
   right
   repeat walk_at "sc"
   intro d dx g1 g2 g3;exact Jh ro nofun (gJ z g1 g2 g3) (λH2 z2=>⟨rfl,q d H2 z2⟩)
  |read n=>
   right
   repeat walk_at "sc"
   intro d dx g1 g2 g3;exact IB ro nofun (gJ z g1 g2 g3) (λH2 z2=>⟨rfl,q d H2 z2⟩)
  |write n=>
   right
   repeat walk_at "sc"
   intro d dx g1 g2 g3;exact Hl ro nofun (gJ z g1 g2 g3) (λH2 z2=>⟨rfl,q d H2 z2⟩)
def IC {l:Int}:fin l=0\/fin l=1:=by
 unfold fin
 split
 .exact .inr rfl
 .exact .inl rfl
abbrev idx (wd:Wd)(x:Bx):Int:=match wd with
 | .fill=>x.t
 | .shift=>if x.t<=x.h then x.h else x.h+x.l-1
 |_=>x.h
abbrev dir (wd:Wd)(x:Bx):Int:=match wd with
 | .shift=>if x.t<=x.h then 1 else -1
 | .turn=>1
 |_=>x.w
abbrev gone (n:Nat)(w h h':Int):Prop:=h'=h\/(0<=h/\h<n)/\(h'=h+w\/h'=h+1)
def iV {d:Str}{w h:Int}(m:aj ws d h=true):gone ws.length w h (h+w):=.inr ⟨ar m,.inl rfl⟩
def rM {d:Str}{w h:Int}(m:aj ws d h=true):gone ws.length w h (h+1):=.inr ⟨ar m,.inr rfl⟩
abbrev yI (x x':Bx)(n:Nat):Prop:=x'.w=x.w/\(0<=x.l->0<=x'.l)/\(x.ok->n<=60->x'.ok)
def cz {h' t' l' m':Int}(hh:gone n x.w x.h h')(ht:gone n x.w x.t t')(hl:0<=x.l->0<=l'/\l'<=x.l)(hm:m'=x.m\/m'=0\/m'=1):yI x ⟨h',t',l',x.w,x.s,m'⟩ n:=by
 refine⟨rfl,λz=>(hl z).1,λok hn=>?_⟩;obtain⟨o1,o2,o3,o4,o5,o6⟩:=ok;have b:=hl o3.1;have gg:∀ {h h':Int},gone n x.w h h'-> -1000000000<=h/\h<=1000000000-> -1000000000<=h'/\h'<=1000000000:=λ{h h'} g o=>by
  rcases g with rfl|⟨g,e⟩
  .exact o
  .omega
 exact⟨gg hh o1,gg ht o2,⟨b.1,Int.le_trans b.2 o3.2⟩,o4,o5,hm.elim (λe=>o6.imp (e.trans ·) (e.trans ·)) id⟩
def aT {P:Out->Prop}{c:Prop} [Decidable c] {a b:Out}(h:c->P a)(g:¬ c->P b):P (if c then a else b):=by
 by_cases e:c
 .rw[if_pos e];exact h e
 .rw[if_neg e];exact g e
def G1 {l:Int}(e:¬ l=0)(z:0<=l):0<=l+ -1/\l+ -1<=l:=by omega
section
variable {P:Out->Prop}{wd:Wd}{x:Bx}{cs:List Int}{ws:List Str}
def xA {j:Int}{f:List Int->Out}(no:∀ (d:Str) (c:Int),d="look"\/d="put"->P (.no d c)) (h:aj ws "look" i=true->aj ws "put" j=true->P (f (cs.set j.toNat (gt cs i)))):P (hm cs ws i j f):=
 aT (λa=>aT (h a) (λ_=>no _ _ (.inr rfl))) (λ_=>no _ _ (.inl rfl))
def yK (done:∀ x',yI x x' ws.length->P (.on 1 x' cs)) (no:∀ (d:Str) (c:Int),d="look"\/d="put"->P (.no d c))
  (go:∀ x' cs',yI x x' ws.length->cs'.length=cs.length->(0<=idx wd x/\idx wd x<ws.length)/\idx wd x'=idx wd x+dir wd x/\dir wd x'=dir wd x->P (.on (fin x'.l) x' cs')):P (cT wd x cs ws):=by
 have sm:∀ {m':Int},m'=x.m\/m'=0\/m'=1->yI x ⟨x.h,x.t,x.l,x.w,x.s,m'⟩ ws.length:=λe=>cz (.inl rfl) (.inl rfl) (λz=>⟨z,Int.le_refl _⟩) e
 have lk:∀ {c},P (.no "look" c):=no _ _ (.inl rfl);have pu:∀ {c},P (.no "put" c):=no _ _ (.inr rfl);cases wd
 .exact aT (λ_=>done _ (sm (.inl rfl))) λe=>xA no λa b=>go _ _ (cz (iV a) (iV b) (G1 e) (.inl rfl)) (length_set ..) ⟨ar a,rfl,rfl⟩
 .exact aT (λ_=>done _ (sm (.inl rfl))) λe=>aT (λb=>go _ _ (cz (.inl rfl) (iV b) (G1 e) (.inl rfl)) (length_set ..) ⟨ar b,rfl,rfl⟩) λ_=>pu
 .exact aT (λ_=>done _ (sm (.inr (.inl rfl)))) λe=>aT (λa=>aT (λ_=>done _ (sm (.inr (.inr rfl)))) λ_=>go _ _ (cz (iV a) (.inl rfl) (G1 e) (.inr (.inl rfl))) rfl ⟨ar a,rfl,rfl⟩) λ_=>lk
 .exact aT (λ_=>done _ (sm (.inr (.inr rfl)))) λe=>aT (λa=>aT (λb=>aT (λ_=>go _ _ (cz (iV a) (iV b) (G1 e) (.inr (.inr rfl))) rfl ⟨ar a,rfl,rfl⟩) λ_=>done _ (sm (.inr (.inl rfl)))) λ_=>lk) λ_=>lk
 .refine aT (λ_=>done _ (sm (.inl rfl))) λe=>aT (λc=>xA no λa b=>go _ _ (cz (rM a) (rM b) (G1 e) (.inl rfl)) (length_set ..) ?_) λc=>xA no λa b=>go _ _ (cz (.inl rfl) (.inl rfl) (G1 e) (.inl rfl)) (length_set ..) ?_
  .have g:=ar a;unfold idx dir;dsimp only;rw[if_pos c,if_pos c,if_pos nofun,if_pos nofun];exact⟨g,rfl,rfl⟩
  .have g:=ar a;unfold idx dir;dsimp only;rw[if_neg c,if_neg c];exact⟨g,by omega,rfl⟩
 .exact aT (λ_=>done _ (sm (.inl rfl))) λe=>aT (λc=>done _ (cz (.inl rfl) (.inl rfl) (λz=>⟨Int.le_refl _,z⟩) (.inl rfl))) λc=>
   aT (λa=>aT (λ_=>aT (λ_=>aT (λ_=>go _ _ (cz (rM a) (.inl rfl) (λz=>by omega) (.inl rfl)) ((length_set ..).trans (length_set ..)) ⟨ar a,rfl,rfl⟩) λ_=>pu) λ_=>pu) λ_=>lk) λ_=>lk
end
variable {x':Bx}
def r8 {cs:List Int}{r:Int}(h:cT wd x cs ws=.on r x' cs'):
  yI x x' ws.length/\cs'.length=cs.length/\(r=0\/r=1)/\(r=0->(0<=idx wd x/\idx wd x<ws.length)/\idx wd x'=idx wd x+dir wd x/\dir wd x'=dir wd x):=by
 revert h
 refine yK (P:=λo=>o=.on r x' cs'->_) (λy w e=>?_) (λ_ _ _ e=>by cases e) (λy c w l g e=>?_)
 .cases e;exact⟨w,rfl,.inr rfl,λz=>by cases z⟩
 .cases e;exact⟨w,l,IC,λ_=>g⟩
def zU {cs:List Int}{d:Str}(h:cT wd x cs ws=.no d c):d="look"\/d="put":=by
 revert h
 exact yK (P:=λo=>o=.no d c->_) (λ_ _ e=>by cases e) (λ_ _ h e=>by cases e;exact h) (λ_ _ _ _ _ e=>by cases e)
def vf {cs:List Int}{d:Str}(h:fe x cs ws r=.no d c):d="look"\/d="put":=by
 have gv:∀ {b:Bn}{i:Int},jX (bt x cs b i)≠.no d c:=λ{b i} e=>by
  unfold bt at e
  split at e<;>cases e
 cases r with
 |lg w=>
  have h:ofM (cT w x cs ws)=.no d c:=h;cases e:cT w x cs ws with
  |on r x' cs'=>rw[e]at h;cases h
  |no d' c'=>rw[e]at h;cases h;exact zU e
 |hop n o=>cases h
 |sp s=>
  cases s with
  |set n i=>exact absurd h gv
  |add n i=>exact absurd h gv
  |take n m=>exact absurd h gv
  |read n=>
   have h:jX (if aj ws "look" x.h=true then bt x cs n (gt cs x.h) else .no "look" x.h)=.no d c:=h
   split at h
   .exact absurd h gv
   .cases h;exact .inl rfl
  |write n=>
   have h:jX (if fM (wl (x.g n))=true then(if aj ws "put" x.t=true then .on x (cs.set x.t.toNat (x.g n)) else .no "put" x.t) else .nf n (x.g n))=.no d c:=h
   split at h
   .split at h
    .cases h
    .cases h;exact .inr rfl
   .cases h
abbrev ig (O:List av)(ss:List V)(rs:List Rw):Prop:=ss.length=rs.length/\(∀ r ∈ rs,r.ok)/\∀ (i:Nat) (r:Rw),rs[i]? =some r->∃ t Δ,ss[i]? =some (wf t)/\ag (tu t r.tl) O Δ
def ig.more (h:ig O ss rs):ig (A::O) ss rs:=⟨h.1,h.2.1,λi r e=>by
 obtain⟨a,Δ,e2,p⟩:=h.2.2 i r e;exact⟨a,_,e2,.t p⟩⟩
noncomputable abbrev uu (w d p lv:Addr)(at_:Int)(x:Bx)(cs:List Int)(ws:List Str)(O:List av):List av:=pt w (wr [wl at_,wf d,wf p,wf lv])::ao d x::pt p (wr (cs.map wl))::pt lv (wr (ws.map wn))::O
section
variable {w d p lv SP:Addr}{at_:Int}{ss:List V}{rs:List Rw}{x:Bx}{cs:List Int}{ws:List Str}
def Gk (hk:4<=k)(h0:0<=at_)(h1:at_<=ss.length)(hx:0<=x.l)(hl:cs.length=ws.length)(hs:ig O ss rs)(z:Sep (uu w d p lv at_ x cs ws (pt SP (wr ss)::O)) H)
  (q:∀ H',Sep (uu w d p lv (mS rs at_ x cs ws).at_ (mS rs at_ x cs ws).x (mS rs at_ x cs ws).cs ws (pt SP (wr ss)::O)) H'->Q (wn (mS rs at_ x cs ws).w) H'):ae tab R k 113 [wf SP,wf w] H Q E:=by
 delta jx;have hl1:=hs.1;unfold mS at q;right;refine aG (λhe=>?_) (λhe=>?_)
 .rw[List.getElem?_eq_none nofun]at q;right;exact q H z
 .have hlt:at_.toNat<rs.length:=by omega
  have er:rs[at_.toNat]? =some rs[at_.toNat]:=li hlt;have ok:=hs.2.1 _ (getElem_mem hlt);generalize rs[at_.toNat]=r at er ok;obtain⟨t,Δ,e2,pt_⟩:=hs.2.2 _ _ er;rw[er]at q;dsimp only at q;right;refine aJ (i:=at_) (by grind) (aA h0 e2) ?_;right;refine zJ (O:=pt w (wr [wl at_,wf d,wf p,wf lv])::pt SP (wr ss)::O) r nofun ok hx hl (Sep.D0 (z.eX (.j2 (.j2 (.t pt_)))) (z.sub (by ac_nf))) (λtd H2 z2=>?_);clear z;generalize ho:fe x cs ws r=o at q z2;cases o with
  |on n x' cs'=>
   have z2:Sep (pt td (wv [wn "on",wl n,wl 0])::tu t r.tl::ao d x'::pt p (wr (cs'.map wl))::pt lv (wr (ws.map wn))::pt w (wr [wl at_,wf d,wf p,wf lv])::pt SP (wr ss)::O) H2:=z2;right
   repeat walk_at "sc"
   rename_i H3 z3;rw[show min (ss.length:Int) (at_+n)=min (at_+n) rs.length by rw[Int.min_comm,hl1]]at z3;exact q H3 (z3.sub (by ac_nf))
  |no dd c=>
   have z2:Sep (pt td (wv [wn dd,wl c,wl 0])::tu t r.tl::ao d x::pt p (wr (cs.map wl))::pt lv (wr (ws.map wn))::pt w (wr [wl at_,wf d,wf p,wf lv])::pt SP (wr ss)::O) H2:=z2;right;refine au (by rcases vf ho with rfl|rfl<;>decide+kernel) ?_;right;exact q H2 (z2.sub (by ac_nf))
  |nf n i=>
   have z2:Sep (pt td (wv [wn "fit",wn n.nm,wl i])::tu t r.tl::ao d x::pt p (wr (cs.map wl))::pt lv (wr (ws.map wn))::pt w (wr [wl at_,wf d,wf p,wf lv])::pt SP (wr ss)::O) H2:=z2;right
   repeat walk_at "sc"
   exact q H2 (z2.sub (by ac_nf))
end
section
variable {m l s b:Addr}{at_:Int}{ds:List V}{rs:List Rw}{x:Bx}{cs:List Int}{ws:List Str}
end
def set_same {l:List α}{a:α}(h:l[n]? =some a):l.set n a=l:=by
 apply List.ext_getElem?;intro i;rw[List.getElem?_set]
 split
 .rename_i e;subst e;rw[h]
  split
  .rfl
  .rename_i h2;exact absurd (tz.mp h).1 h2
 .rfl
def ab {A:av}:∀ {L O Δ:List av},ag A O Δ->ag A (L++O) (L++Δ)
 | [],_,_,h=>h
 |B::L,_,_,h=>.t (ab h)
def bh {α:Type}{f:α->av}{x:α}:∀ {l:List α},x ∈ l->∃ Δ,∀ O,ag (f x) (l.map f++O) (Δ++O)
 |y::l,h=>by
  rcases nb.mp h with rfl|h
  .exact⟨l.map f,λO=>.e⟩
  .obtain⟨Δ,hp⟩:=bh (f:=f) h;exact⟨f y::Δ,λO=>.t (hp O)⟩
abbrev uU (R:Rt)(p:Addr×Rw):av:=mD R p.1 p.2
abbrev f9 (p:Addr×Rw):av:=tu p.1 p.2.tl
abbrev d8 (p:Addr×Rw):V:=wf p.1
def om {L:List (Addr×Rw)}(h:L.map (·.2)=rs):gy R (L.reverse.map (uU R)++O) (L.map d8) rs:=by
 subst h;refine⟨by simp,λi r e=>?_⟩;rw[io]at e;obtain⟨⟨a,r'⟩,g,rfl⟩:=nw.mp e;obtain⟨Δ,hp⟩:=bh (f:=uU R) (x:=(a,r')) (l:=L.reverse) (by have:=cr g;simpa using this);exact⟨a,_,by rw[io,g];rfl,hp O⟩
def rA {S:List (Addr×Rw)}(h:S.map (·.2)=rs)(ok:∀ r ∈ rs,Rw.ok r):ig (S.reverse.map f9++O) (S.map d8) rs:=by
 refine⟨by rw[<-h];simp,ok,λi r e=>?_⟩;subst h;rw[io]at e;obtain⟨⟨a,r'⟩,g,rfl⟩:=nw.mp e;obtain⟨Δ,hp⟩:=bh (f:=f9) (x:=(a,r')) (l:=S.reverse) (by have:=cr g;simpa using this);exact⟨a,_,by rw[io,g];rfl,hp O⟩
section
variable {d p lv SP:Addr}{at_:Int}{ss:List V}{rs:List Rw}{x:Bx}{cs:List Int}{ws:List Str}
end
def FH {cs:List Int}{r:Int}(h:cT wd x cs ws=.on r x' cs'):
  (r=0\/r=1)/\x'.w=x.w/\(r=0->0<=idx wd x/\idx wd x<ws.length/\idx wd x'=idx wd x+dir wd x/\dir wd x'=dir wd x):=
 have ⟨w,_,r,g⟩:=r8 h
 ⟨r,w.1,λz=>⟨(g z).1.1,(g z).1.2,(g z).2⟩⟩
def ig.set {i:Nat}{t:Addr}(h:ig O ss rs)(hi:i<rs.length)(ok:r.ok)(p:ag (tu t r.tl) O Δ):ig O (ss.set i (wf t)) (rs.set i r):=by
 refine⟨by rw[length_set,length_set];exact h.1,λr' hr=>?_,λj r' e=>?_⟩
 .rcases List.mem_or_eq_of_mem_set hr with hr|rfl
  .exact h.2.1 _ hr
  .exact ok
 .by_cases hj:i=j
  .subst hj;rw[getElem?_set_self hi]at e;cases e;exact⟨t,Δ,getElem?_set_self (by rw[h.1];exact hi),p⟩
  .rw[getElem?_set_ne hj]at e;obtain⟨a,Δ',e2,pp⟩:=h.2.2 j r' e;exact⟨a,Δ',by rw[getElem?_set_ne hj];exact e2,pp⟩
def Bp {cs:List Int}{n:Int}(ok:r.ok)(h:fe x cs ws r=.on n x' cs'):0<=n:=by
 cases r with
 |lg w=>
  have h:ofM (cT w x cs ws)=.on n x' cs':=h;cases e:cT w x cs ws with
  |no d c=>rw[e]at h;cases h
  |on r y ys=>
   rw[e]at h;cases h;rcases(FH e).1 with rfl|rfl<;>decide
 |hop m o=>
  cases h;have:=ok.1;cases o with
  |none=>show 0<=1+m;omega
  |some i=>
   show 0<=(if i=x.m then 1+m else 1)
   split<;>omega
 |sp s=>
  have h:jX (jN x cs ws s)=.on n x' cs':=h;cases e:jN x cs ws s with
  |on y ys=>rw[e]at h;cases h;decide
  |no d c=>rw[e]at h;cases h
  |nf b i=>rw[e]at h;cases h
def Ji {cs:List Int}(h0:0<=at_)(h1:at_<=rs.length)(hn:∀ r ∈ rs,Rw.ok r):0<=(mS rs at_ x cs ws).at_/\(mS rs at_ x cs ws).at_<=rs.length/\((mS rs at_ x cs ws).w="on"\/((mS rs at_ x cs ws).w="end"\/(mS rs at_ x cs ws).w="stop")/\(mS rs at_ x cs ws).at_=at_/\(mS rs at_ x cs ws).x=x/\(mS rs at_ x cs ws).cs=cs):=by
 unfold mS;cases e:rs[at_.toNat]? with
 |none=>exact⟨h0,h1,.inr ⟨.inl rfl,rfl,rfl,rfl⟩⟩
 |some r=>
  have ok:=hn r (cr e);dsimp only;cases ho:fe x cs ws r with
  |no d c=>exact⟨h0,h1,.inr ⟨.inr rfl,rfl,rfl,rfl⟩⟩
  |nf b i=>exact⟨h0,h1,.inr ⟨.inr rfl,rfl,rfl,rfl⟩⟩
  |on n x' cs'=>
   have hn0:0<=n:=Bp ok ho;refine⟨?_,?_,.inl rfl⟩
   .show 0<=min (at_+n) (rs.length:Int)
    omega
   .show min (at_+n) (rs.length:Int)<=rs.length
    omega
section
variable {m l s b:Addr}{at_:Int}{ds:List V}{rs:List Rw}{x:Bx}{cs:List Int}{ws:List Str}
end
def Al {cs:List Int}{r:Int}(hx:0<=x.l)(h:cT wd x cs ws=.on r x' cs'):0<=x'.l/\cs'.length=cs.length:=
 ⟨(r8 h).1.2.1 hx,(r8 h).2.1⟩
def g8 {cs:List Int}{b:Bn}(hx:0<=x.l)(h:bt x cs b i=.on x' cs'):0<=x'.l/\cs'.length=cs.length:=by
 unfold bt at h
 by_cases e:bg b i=true
 .rw[if_pos e]at h;cases h;refine⟨?_,rfl⟩;cases b
  .exact hx
  .exact hx
  .have e:(decide (0<=i)&&decide (i<=1000000000))=true:=e;have e:0<=i/\i<=1000000000:=by simpa using e
   exact e.1
  .exact hx
  .exact hx
  .exact hx
 .rw[if_neg e]at h;cases h
def vk {cs:List Int}{s:Sp}(hx:0<=x.l)(h:jN x cs ws s=.on x' cs'):0<=x'.l/\cs'.length=cs.length:=by
 cases s with
 |set b i=>exact g8 hx h
 |add b i=>exact g8 hx h
 |take b c=>exact g8 hx h
 |read b=>
  have h:(if aj ws "look" x.h=true then bt x cs b (gt cs x.h) else .no "look" x.h)=.on x' cs':=h
  by_cases e:aj ws "look" x.h=true
  .rw[if_pos e]at h;exact g8 hx h
  .rw[if_neg e]at h;cases h
 |write b=>
  have h:(if fM (wl (x.g b))=true then(if aj ws "put" x.t=true then .on x (cs.set x.t.toNat (x.g b)) else .no "put" x.t) else .nf b (x.g b))=wA.on x' cs':=h
  by_cases e:fM (wl (x.g b))=true
  .rw[if_pos e]at h
   by_cases e2:aj ws "put" x.t=true
   .rw[if_pos e2]at h;cases h;exact⟨hx,length_set ..⟩
   .rw[if_neg e2]at h;cases h
  .rw[if_neg e]at h;cases h
def vK {cs:List Int}{n:Int}(hx:0<=x.l)(h:fe x cs ws r=.on n x' cs'):0<=x'.l/\cs'.length=cs.length:=by
 cases r with
 |lg w=>
  have h:ofM (cT w x cs ws)=.on n x' cs':=h;cases e:cT w x cs ws with
  |no d c=>rw[e]at h;cases h
  |on r y ys=>
   rw[e]at h;cases h;exact Al hx e
 |hop m o=>cases h;exact⟨hx,rfl⟩
 |sp s=>
  have h:jX (jN x cs ws s)=.on n x' cs':=h;cases e:jN x cs ws s with
  |on y ys=>rw[e]at h;cases h;exact vk hx e
  |no d c=>rw[e]at h;cases h
  |nf b i=>rw[e]at h;cases h
def AO {cs:List Int}(hx:0<=x.l):0<=(mS rs at_ x cs ws).x.l/\(mS rs at_ x cs ws).cs.length=cs.length:=by
 unfold mS;cases e:rs[at_.toNat]? with
 |none=>exact⟨hx,rfl⟩
 |some r=>
  dsimp only;cases ho:fe x cs ws r with
  |no d c=>exact⟨hx,rfl⟩
  |nf b i=>exact⟨hx,rfl⟩
  |on n x' cs'=>exact vK hx ho
section
variable {w d p lv SP:Addr}{at_:Int}{ss:List V}{rs:List Rw}{x:Bx}{cs:List Int}{ws:List Str}
end
def Sep.mv:∀ {L P Δ O:List av}{H:Hp},Sep (P++(Δ++(L++O))) H->Sep (P++(L++(Δ++O))) H
 | [],_,_,_,_,z=>z
 |A::L,P,Δ,O,H,z=>(Sep.mv (L:=L) (P:=A::P) (Δ:=Δ) (O:=O) (z.pull (ab (ab .e)))).push (ab .e)
def aw {α:Type}{f:α->av}{x:α}:∀ {l:List α}{i:Nat},l[i]? =some x->∀ {O:List av},ag (f x) (l.map f++O) ((l.eraseIdx i).map f++O)
 |y::l,0,h,O=>by cases h;exact .e
 |y::l,i+1,h,O=>.t (aw (l:=l) (i:=i) h)
def eI {α:Type}{f:α->av}{x y:α}:∀ {l:List α}{i:Nat},l[i]? =some x->∀ {O:List av},ag (f y) ((l.set i y).map f++O) ((l.eraseIdx i).map f++O)
 |z::l,0,h,O=>.e
 |z::l,i+1,h,O=>.t (eI (l:=l) (i:=i) h)
def nq {b:Addr}{j i2 j2:Int}(hk:1<=k)(z:Sep O H)(e1:H a=some (wv [wl i,wl j]))(e2:H b=some (wv [wl i2,wl j2]))(hd:min j j2<=max i i2)(q:Q wp H):ae tab R k 59 [wf a,wf b] H Q E:=by
 delta kx;right;refine bP e1 rfl ?_;right;refine bP e2 rfl ?_;right;refine bP e1 rfl ?_;right;refine bP e2 rfl ?_;right;refine aD (λh=>absurd h nofun) (λh=>?_);right;exact q
def xf (h:n<=xs.length):gk xs none (some (n:Int))=xs.take n:=by
 unfold gk;show(xs.drop 0).take ((if(n:Int)<0 then((n:Int)+(xs.length:Int)).toNat else min (n:Int).toNat xs.length)-0)=_;rw[if_neg nofun,sn,Nat.min_eq_left h]
 rfl
def yW (h:n<=xs.length):gk xs (some (n:Int)) none=xs.drop n:=by
 unfold gk;show(xs.drop (if(n:Int)<0 then((n:Int)+(xs.length:Int)).toNat else min (n:Int).toNat xs.length)).take (xs.length-(if(n:Int)<0 then((n:Int)+(xs.length:Int)).toNat else min (n:Int).toNat xs.length))=_;rw[if_neg nofun,sn,Nat.min_eq_left h];exact take_of_length_le (by rw[jp];omega)
def zM {m:Nat}(h:n<=xs.length)(h2:m<=xs.length):gk xs (some (n:Int)) (some (m:Int))=(xs.drop n).take (m-n):=by
 unfold gk;show(xs.drop (if(n:Int)<0 then((n:Int)+(xs.length:Int)).toNat else min (n:Int).toNat xs.length)).take ((if(m:Int)<0 then((m:Int)+(xs.length:Int)).toNat else min (m:Int).toNat xs.length)-(if(n:Int)<0 then((n:Int)+(xs.length:Int)).toNat else min (n:Int).toNat xs.length))=_;rw[if_neg (by omega:¬ (n:Int)<0),if_neg (by omega:¬ (m:Int)<0),sn,sn,Nat.min_eq_left h,Nat.min_eq_left h2]
structure Pt where
 p:Addr
 i:Int
 j:Int
abbrev cA (q:Pt):V:=wf q.p
abbrev c9 (q:Pt):av:=tu q.p [wl q.i,wl q.j]
abbrev BG (a b:Pt):Prop:=min a.j b.j<=max a.i b.i
def Cq {L:List Pt}(hk:2<=k)(hn:L.length<=4)(z:Sep O H)(p:ag (pt l (wr (L.map cA))) O Δ)(ht:∀ q ∈ L,∃ Δ,ag (c9 q) O Δ) (hd:∀ (n m:Nat) (a b:Pt),n<m->L[n]? =some a->L[m]? =some b->BG a b) (q:∀ H',Sep O H'->Q (.bl true) H'):ae tab R k 60 [wf l] H Q E:=by
 delta uP;right;refine C8 (z.get p) ?_;refine kb (xs:=L.map cA) (λj U H=>∃ u v w,U=[some (wf l),u,v,w]/\Sep O H) ⟨none,none,none,rfl,z⟩ ?_ ?_ ?_
 .rintro j U H ⟨u,v,w,rfl,hs⟩;exact hs.get p
 .rintro j x T U H hx ⟨u,v,w,rfl,hs⟩ hT;rw[io]at hx;obtain⟨b,eb,rfl⟩:=nw.mp hx;have hs4:=hs.iG (xs:=[wl j,cA b]) hT;left;refine⟨T,_,rfl,.inl (bc.of hs4.atT),rfl,?_⟩;generalize upd H T _=H4 at hs4⊢;right;refine GG hs4 (hs4.get (.t p)) (λP H5 hs5=>?_);have hj:j<L.length:=(tz.mp eb).1;rw[xf (by rw[ce];omega)]at hs5;obtain⟨Δb,pb⟩:=ht b (cr eb);clear hs4 hs;right;refine dH (xs:=(L.map cA).take j) (λi U H=>∃ w,U=[some (wf l),some (wl j),some (cA b),w]/\Sep (pt P (wr ((L.map cA).take j))::tu T [wl j,cA b]::O) H) ⟨_,rfl,hs5⟩ ?_ ?_ ?_
  .rintro i U H ⟨w,rfl,hs⟩;exact aU.of (hs.get .e)
  .rintro i x U H hx ⟨w,rfl,hs⟩;rw[getElem?_take]at hx
   split at hx
   .rename_i hij;rw[io]at hx;obtain⟨a,ea,rfl⟩:=nw.mp hx;obtain⟨Δa,pa⟩:=ht a (cr ea);right;refine nq nofun hs (hs.eX (.j2 pa)) (hs.eX (.j2 pb)) (hd i j a b hij ea eb) ?_;refine bb ?_;refine au rfl ?_;right;exact⟨_,rfl,hs⟩
   .cases hx
  .rintro U H ⟨w,rfl,hs⟩;right;exact⟨_,_,_,rfl,hs.drop.drop⟩
 .rintro U H ⟨u,v,w,rfl,hs⟩;right;exact q _ hs
structure Mh where
 t:Addr
 i:Int
 j:Int
 dl:Addr
 b:Addr
 rs:List Rw
 x:Bx
abbrev j7 (q:Mh):V:=wf q.t
abbrev oZ (q:Mh):av:=tu q.t [wl q.i,wl q.j,wf q.dl,wf q.b]
def qc {t:Addr}(ro:Ro K R)(hk:1<=k)(e:H t=some (wv xs))(hl:xs.length=4)(q:Q (.bl true) H):ae tab R k 61 [wf t] H Q E:=by
 delta jb;left;refine cX (t:="tuple") (G7 e) rfl ?_;right;refine uH e ?_;left;simp only[ro.g_THINGS_OF_A_MEMBER];right;rw[hl];exact q
def lU {L:List Mh}(ro:Ro K R)(hk:2<=k)(n0:1<=L.length)(n1:L.length<=4)(z:Sep O H)(p:ag (pt l (wr (L.map j7))) O Δ)(ht:∀ q ∈ L,∃ Δ,ag (oZ q) O Δ) (q:∀ H',Sep O H'->Q (.bl true) H'):ae tab R k 62 [wf l] H Q E:=by
 delta fX;left;refine cX (t:="list") (Ck (z.get p)) rfl ?_;right;refine ip (z.get p) ?_;rw[ce];right;refine aD (λh=>?_) (λh=>absurd nofun h);left;simp only[ro.g_MOST_MEMBERS];right;refine aD (λh=>?_) (λh=>absurd nofun h);right;refine Io (z.get p) ?_;refine xN (xs:=L.map j7) (by rw[ce];omega) (λD ys H=>ys=sK ys.length (.bl true)/\Sep (pt D (wr ys)::O) H) (λD ys H hI=>aU.of (hI.2.get (.t p))) (λD hD=>⟨rfl,z.new (o:=wr []) hD⟩) (λD ys y H hy hI=>?_) (λD ys H hl hI=>?_)
 .obtain⟨e,zz⟩:=hI;rw[io]at hy;obtain⟨o,eo,rfl⟩:=nw.mp hy;obtain⟨Δo,po⟩:=ht o (cr eo);have hlt:=(tz.mp eo).1;right;refine qc ro nofun (zz.eX (.t po)) rfl ?_;refine vb.mk zz.at nofun ⟨?_,zz.set rfl⟩;rw[ci,ge,List.replicate_succ',<-e]
 .obtain⟨e,zz⟩:=hI;right;refine GC (K:=R.K) (bs:=sK ys.length true) rfl (by rw[map_replicate,<-e];exact zz.at) ?_;right;rw[show(sK ys.length true).all id=true by simp];exact q _ zz.drop
def vP {p:Addr}{j:Int}(hk:3<=k)(e:H p=some (wv [wl i,wl j]))(h0:0<=i)(h1:i<j)(h2:j<=n)(q:Q (.bl true) H):ae tab R k 63 [wf p,wl n] H Q E:=by
 delta mF;right;refine bP e rfl ?_;right;refine bP e rfl ?_;right;refine js (t:="int") (u:="int") nofun rfl rfl ?_;refine aM (by simp[ay,h0,h2,Int.le_of_lt h1]) ?_;right;refine bP e rfl ?_;right;refine bP e rfl ?_;right;dsimp only;rw[decide_eq_true h1];exact q
abbrev ij (q:Pt):Int×Int:=(q.i,q.j)
abbrev Bw (q:Mh):Int×Int:=(q.i,q.j)
abbrev JC (a b:Mh):Prop:=min a.j b.j<=max a.i b.i
def zG {L':List Pt}{L:List Mh}(e:L'.map ij=L.map Bw){a:Pt}(h:L'[n]? =some a):∃ b,L[n]? =some b/\a.i=b.i/\a.j=b.j:=by
 have h2:(L'.map ij)[n]? =(L.map Bw)[n]? :=by rw[e]
 rw[io,io,h]at h2;obtain⟨b,e1,e2⟩:=nw.mp h2.symm;exact⟨b,e1,(congrArg (·.1) e2).symm,(congrArg (·.2) e2).symm⟩
def gC {L:List α}{o:α}(h:L[n]? =some o):L.take (n+1)=L.take n++[o]:=by
 rw[take_succ,h]
 rfl
def cC {f:α->av}{x:α}{l:List α}:ag (f x) ((l++[x]).map f++O) (l.map f++O):=by
 rw[f8,le];exact ab .e
def rH {L:List Mh}(ro:Ro K R)(hk:4<=k)(n0:1<=L.length)(n1:L.length<=4)(z:Sep O H)(p:ag (pt l (wr (L.map j7))) O Δ)(ht:∀ q ∈ L,∃ Δ,ag (oZ q) O Δ) (hp:∀ q ∈ L,0<=q.i/\q.i<q.j/\q.j<=n) (hd:∀ (n m:Nat) (a b:Mh),n<m->L[n]? =some a->L[m]? =some b->JC a b)
  (q:∀ P (L':List Pt) H',L'.map ij=L.map Bw->Sep (pt P (wr (L'.map cA))::(L'.map c9++O)) H'->Q (wf P) H'):ae tab R k 64 [wf l,wl n] H Q E:=by
 delta lz;right;refine lU ro nofun n0 n1 z p ht (λH1 z1=>?_);right;rename_i P H2 z2;refine C8 (z2.get (.t p)) ?_;refine kb (xs:=L.map j7) (λj U H=>∃ u v w,∃ L':List Pt,U=[some (wf l),some (wl n),some (wf P),u,v,w]/\L'.map ij=(L.take j).map Bw/\Sep (pt P (wr (L'.map cA))::(L'.map c9++O)) H) ⟨none,none,none,[],rfl,rfl,z2⟩ ?_ ?_ ?_
 .rintro j U H ⟨u,v,w,L',rfl,e,hs⟩;exact hs.get (.t (ab p))
 .rintro j x T U H hx ⟨u,v,w,L',rfl,e,hs⟩ hT;rw[io]at hx;obtain⟨b,eb,rfl⟩:=nw.mp hx;have hj:=(tz.mp eb).1;obtain⟨Δb,pb⟩:=ht b (cr eb);obtain⟨b0,b1,b2⟩:=hp b (cr eb);have hs4:=hs.iG (xs:=[wl j,j7 b]) hT;left;refine⟨T,_,rfl,.inl (bc.of hs4.atT),rfl,?_⟩;generalize upd H T _=H4 at hs4⊢;right;refine bP (hs4.eX (.j2 (ab pb))) rfl ?_;right;refine bP (hs4.eX (.j2 (ab pb))) rfl ?_;right;rename_i X H5 hs5;refine vP (n:=n) nofun hs5.at b0 b1 b2 ?_;refine au rfl ?_;clear hs4 hs;right;rename_i Y H6 hs6;have hl':L'.length=j:=by
   have:=congrArg List.length e;rw[ce,ce,db]at this
   omega
  refine ub hs6 (hs6.get .k3) hs6.at (by rw[ce,ge];omega) (λZ H7 hs7=>?_);have e':(L'++[(⟨X,b.i,b.j⟩:Pt)]).map ij=(L.take (j+1)).map Bw:=by
   rw[gC eb,f8,f8,e]
   rfl
  have hs8:Sep (tu X [wl b.i,wl b.j]::pt P (wr (L'.map cA))::pt Z (wr (L'.map cA++[wf X]))::(L'.map c9++O)) H7:=(hs7.pull .k2).toT.sub (by ac_nf);have hs9:Sep (pt P (wr (L'.map cA))::pt Z (wr ((L'++[(⟨X,b.i,b.j⟩:Pt)]).map cA))::((L'++[(⟨X,b.i,b.j⟩:Pt)]).map c9++O)) H7:=Sep.push (.j2 cC) (by rw[f8];exact hs8);clear hs5 hs6 hs7 hs8;right;refine Cq (L:=L'++[(⟨X,b.i,b.j⟩:Pt)]) nofun (by rw[ci,ge];omega) hs9 .k1 (λa ha=>?_) (λn m a a2 hn h1 h2=>?_) (λH8 hs10=>?_)
  .obtain⟨Δ,hp⟩:=bh (f:=c9) ha;exact⟨_,.t (.t (hp O))⟩
  .obtain⟨c,c1,c2,c3⟩:=zG e' h1;obtain⟨d,d1,d2,d3⟩:=zG e' h2;have g1:L[n]? =some c:=by
    rw[getElem?_take]at c1
    split at c1
    .exact c1
    .cases c1
   have g2:L[m]? =some d:=by
    rw[getElem?_take]at d1
    split at d1
    .exact d1
    .cases d1
   have:=hd n m c d hn g1 g2;unfold JC at this;unfold BG
   omega
  .refine au rfl ?_;right;refine⟨P,_,rfl,hs10.at,?_⟩;right;refine⟨_,hs10.at,lj hs10 .e (by rw[ce];omega) (λH9 hs11=>?_)⟩;right;refine⟨_,_,_,L'++[⟨X,b.i,b.j⟩],rfl,e',?_⟩;have hs12:=(hs11.pull .k1).drop;rw[f8];exact hs12
 .rintro U H ⟨u,v,w,L',rfl,e,hs⟩;right;rw[ce,take_length]at e;exact q P L' _ e hs
abbrev pM (R:Rt)(q:Mh):av:=bx λL:List (Addr×Rw)=>pt q.dl (wr (L.map d8))::aP R q.b q.x::pu (L.map (·.2)=q.rs)::L.reverse.map (uU R)
def Km {q:Mh}(z:Sep (pM R q::O) H):∃ L:List (Addr×Rw),L.map (·.2)=q.rs/\Sep (pt q.dl (wr (L.map d8))::aP R q.b q.x::(L.reverse.map (uU R)++O)) H:=by
 obtain⟨L,z1⟩:=iK z;have z2:=z1.pull .k2;exact⟨L,z2.pure,z2.drop⟩
def La {q:Mh}{L:List (Addr×Rw)}(e:L.map (·.2)=q.rs)(z:Sep (pt q.dl (wr (L.map d8))::aP R q.b q.x::(L.reverse.map (uU R)++O)) H):Sep (pM R q::O) H:=gQ L (Sep.push .k2 (Sep.tR e z))
structure Mm where
 m:Addr
 at_:Int
 rs:List Rw
 x:Bx
 cs:List Int
 ws:List Str
abbrev dw (q:Mm):V:=wf q.m
abbrev cq (R:Rt)(q:Mm):av:=bx λe:Addr×Addr×Addr×List (Addr×Rw)=>pX R q.m e.1 e.2.1 e.2.2.1 q.at_ (e.2.2.2.map d8)::aV R e.2.1 q.cs q.ws::aP R e.2.2.1 q.x::pu (e.2.2.2.map (·.2)=q.rs)::e.2.2.2.reverse.map (uU R)
variable {q:Mm}
def CJ (z:Sep (cq R q::O) H):∃ (l s b:Addr) (L:List (Addr×Rw)),L.map (·.2)=q.rs/\Sep (pX R q.m l s b q.at_ (L.map d8)::aV R s q.cs q.ws::aP R b q.x::(L.reverse.map (uU R)++O)) H:=by
 obtain⟨⟨l,s,b,L⟩,z1⟩:=iK z;have z2:=z1.pull .k3;exact⟨l,s,b,L,z2.pure,z2.drop⟩
def Bh {s b:Addr}{L:List (Addr×Rw)}(e:L.map (·.2)=q.rs)(z:Sep (pX R q.m l s b q.at_ (L.map d8)::aV R s q.cs q.ws::aP R b q.x::(L.reverse.map (uU R)++O)) H):Sep (cq R q::O) H:=gQ (l,s,b,L) (Sep.push .k3 (Sep.tR e z))
def pA {p:Addr}{cs:List Int}{q:Mh}{i j:Nat}{Δ1 Δ2:List av}(ro:Ro K R)(hk:7<=k)(n0:1<=q.rs.length)(n1:q.rs.length<=24)(hij:i<j)(hj:j<=cs.length)(c60:cs.length<=60)(hc:c5 cs)(z:Sep (pM R q::pt C (wr (cs.map wl))::O) H)(p1:ag (tu p [wl i,wl j]) O Δ1)(p2:ag (oZ q) O Δ2)
  (h:∀ m H',Sep (cq R ⟨m,0,q.rs,q.x,(cs.drop i).take (j-i),sK (j-i) "open"⟩::pt C (wr (cs.map wl))::O) H'->Q (wf m) H'):ae tab R k 65 [wf C,wf p,wf q.t] H Q E:=by
 delta hE;obtain⟨L,eL,z1⟩:=Km z;clear z;right;refine bP (z1.eX (.j2 (ab (.t p2)))) rfl ?_;right;refine bP (z1.eX (.j2 (ab (.t p1)))) rfl ?_;right;refine bP (z1.eX (.j2 (ab (.t p1)))) rfl ?_;right;refine GG z1 (z1.get (.j2 (ab .e))) (λS H2 z2=>?_);rw[zM (by rw[ce];omega) (by rw[ce];omega),<-map_drop,<-map_take]at z2;have el:((cs.drop i).take (j-i)).length=j-i:=by rw[db,jp];omega
 right;intro a dx g1 g2 g3;refine n8 ro nofun nofun nofun (λy hy=>hc y (List.mem_of_mem_drop (List.mem_of_mem_take hy))) (gJ z2 g1 g2 g3) .e (λH3 z3=>⟨rfl,?_⟩);rw[el]at z3;right;refine bP (z3.eX (.j2 (.j2 (ab (.t p2))))) rfl ?_;right;intro m dx3 g1 g2 g3;have hrow:=om (R:=R) (O:=pt C (wr (cs.map wl))::O) eL;have hlen:=hrow.1;refine wu (l:=q.dl) (s:=a) (b:=q.b) (x:=q.x) (at_:=0) (ds:=L.map d8) ro nofun nofun nofun nofun nofun .k2 .e .k3 (gy.all hrow.more.more.more.more) (gJ z3 g1 g2 g3) (λl2 s2 b2 H7 z7=>⟨rfl,?_⟩);refine h m H7 (Bh (l:=l2) (s:=s2) (b:=b2) eL ?_);exact z7.sub (by ac_nf)
@[irreducible] noncomputable def vO (I:Addr->List V->Hp->Prop) (D:Addr) (ys:List V) (rest:St) (x y:Option V):VK:=λv H3=>∃ zs,H3 D=some (wr zs)/\zs.length<bn/\∃ ys2 x2 x3,x::y::rest=x2::x3::rest/\ys2.length=ys.length+1/\I D ys2 (upd H3 D (wr (zs++[v])))
def vO.mk {I:Addr->List V->Hp->Prop}{D:Addr}{ys:List V}{rest:St}{x y:Option V}{H3:Hp}(h1:H3 D=some (wr ys))(hl:ys.length<=999)(h2:I D (ys++[v]) (upd H3 D (wr (ys++[v])))):vO I D ys rest x y v H3:=
 by unfold vO;exact⟨ys,h1,dc nofun,ys++[v],x,y,rfl,by simp,h2⟩
def yq {te:TE}{b:Addr}{ys:List V}{rest:St}{tp1 tp2:Bool}(hn:xs.length=ys.length)(I:Addr->List V->Hp->Prop)(hl:∀ D zs H,I D zs H->Sq R.K tp1 H a xs/\Sq R.K tp2 H b ys) (h0:∀ D,H D=none->I D [] (upd H D (wr [])))
  (hs:∀ D zs x y T H',xs[zs.length]? =some x->ys[zs.length]? =some y->I D zs H'->H' T=none->te (some x::some y::rest) (upd H' T (wv [x,y])) (vO I D zs rest (some x) (some y)))
  (hd:∀ D zs H',zs.length=xs.length->I D zs H'->Q (wf D) H'):LCt R.K 2 te (GZ R.K tp1 a tp2 b) (none::none::rest) H Q:=by
 unfold LCt;intro D hD;refine⟨λi m σ' H'=>m=xs.length-i/\i<=xs.length/\∃ ys x0 x1,σ'=x0::x1::rest/\ys.length=i/\I D ys H',⟨xs.length,by simp,Nat.zero_le _,[],none,none,rfl,rfl,h0 D hD⟩,λi m σ' H' ⟨e,hi,zs,x0,x1,e1,e2,h⟩=>?_⟩;subst e1 e2;obtain⟨g1,g2⟩:=hl D zs H' h
 by_cases hlt:zs.length<xs.length
 .refine .inr ⟨⟨xs,ys,xs[zs.length],ys[zs.length]'(hn▸hlt),g1,g2,li hlt,li (hn▸hlt)⟩,λσ2 H2=>∃ ys2 x2 x3,σ2=x2::x3::rest/\ys2.length=zs.length+1/\I D ys2 H2,λσ2 H2 ⟨ys2,x2,x3,f1,f2,f3⟩=>⟨xs.length-(zs.length+1),by omega,rfl,hlt,ys2,x2,x3,f1,f2,f3⟩,λx H'' y=>?_⟩;obtain⟨T,v,v',hT,rfl,rfl,hy,hy'⟩:=y;have z:=hs D zs v v' T H' (hy xs g1) (hy' ys g2) h hT;refine⟨T,[v,v'],rfl,bc.of az,rfl,rfl,?_⟩;unfold vO at z;exact⟨λ_=>z,λe=>nomatch e⟩
 .have:zs.length=xs.length:=by omega
  exact .inl ⟨⟨xs,ys,g1,g2,.inl (Nat.le_of_eq this.symm)⟩,hd D zs H' this h⟩
abbrev Cc (q:Mm):Mm:={ q with m:=0 }
abbrev uh (cs:List Int)(q:Mh):Mm:=⟨0,0,q.rs,q.x,(cs.drop q.i.toNat).take (q.j.toNat-q.i.toNat),sK (q.j.toNat-q.i.toNat) "open"⟩
def BA {L:List α}{o:α}(h:L[n]? =some o):L.drop n=o::L.drop (n+1):=by
 obtain⟨hl,e⟩:=tz.mp h;rw[List.drop_eq_getElem_cons hl,e]
abbrev KI (n:Nat)(q:Mh):Prop:=(0<=q.i/\q.i<q.j/\q.j<=n)/\1<=q.rs.length/\q.rs.length<=24
def Sep.cut {A B:List av}(z:Sep (A++(B++O)) H):Sep (A++O) H:=by
 induction B with
 |nil=>exact z
 |cons X B ih=>exact ih (z.pull (ab .e)).drop
section
variable {C l pl:Addr}{cs:List Int}{L:List Mh}{P:List Pt}
def pv {te:TE}(ro:Ro K R)(hk:7<=k)(n1:L.length<=4)(ok:∀ q ∈ L,KI cs.length q) (c60:cs.length<=60) (hc:c5 cs) (eP:P.map ij=L.map Bw)
  (hte:∀ {v w:V}{H:Hp}{Q:VK},ae tab R k 65 [wf C,v,w] H Q (λ_ _=>False)->te [some v,some w,some (wf C)] H Q) (hP:∀ a ∈ P,∃ Δ,ag (c9 a) O Δ)
  (z:Sep (pt C (wr (cs.map wl))::pt l (wr (L.map j7))::pt pl (wr (P.map cA))::(L.map (pM R)++(L.map oZ++O))) H)
  (q:∀ D (M:List Mm) H',M.map Cc=L.map (uh cs)->Sep (pt D (wr (M.map dw))::pt pl (wr (P.map cA))::(M.map (cq R)++O)) H'->Q (wf D) H'):LCt R.K 2 te (GZ R.K false pl false l) (none::none::[some (wf C)]) H Q:=by
 have hlP:P.length=L.length:=by
  have:=congrArg List.length eP
  rwa [ce,ce]at this
 refine yq (xs:=P.map cA) (ys:=L.map j7) (by rw[ce,ce];exact hlP) (λD ys H=>∃ M:List Mm,ys=M.map dw/\M.map Cc=(L.take M.length).map (uh cs)/\Sep (pt D (wr ys)::pt C (wr (cs.map wl))::pt l (wr (L.map j7))::pt pl (wr (P.map cA))::(M.map (cq R)++((L.drop M.length).map (pM R)++(L.map oZ++O)))) H) (λD ys H ⟨M,_,_,zz⟩=>⟨aU.of (zz.get .k3),aU.of (zz.get .k2)⟩) (λD hD=>⟨[],rfl,rfl,z.new (o:=wr []) hD⟩) (λD ys x y T H hx hy hI hT=>?_) (λD ys H hl hI=>?_)
 .obtain⟨M,rfl,e2,zz⟩:=hI;rw[ce,io]at hx hy;obtain⟨pp,ep,rfl⟩:=nw.mp hx;obtain⟨o,eo,rfl⟩:=nw.mp hy;obtain⟨⟨o0,o1,o2⟩,r0,r1⟩:=ok o (cr eo);have hn:=(tz.mp eo).1;obtain⟨o',eo',ei,ej⟩:=zG eP ep;rw[eo]at eo';cases eo';have z2:=(zz.iG (xs:=[cA pp,j7 o]) hT).drop;generalize upd H T _=H2 at z2;rw[BA eo]at z2;have z3:=(z2.pull .k1).pull (.j2 (.j2 (ab .e)));obtain⟨Δ1,p1⟩:=hP pp (cr ep);obtain⟨Δ2,p2⟩:=bh (f:=oZ) (cr eo);have p1':ag (tu pp.p [wl ((o.i.toNat:Nat):Int),wl ((o.j.toNat:Nat):Int)]) O Δ1:=by
   have e:c9 pp=tu pp.p [wl ((o.i.toNat:Nat):Int),wl ((o.j.toNat:Nat):Int)]:=by
    show tu pp.p [wl pp.i,wl pp.j]=_;rw[ei,ej,Int.toNat_of_nonneg o0,Int.toNat_of_nonneg nofun]
   rw[<-e];exact p1
  refine hte (pA (i:=o.i.toNat) (j:=o.j.toNat) (q:=o) ro hk r0 r1 nofun nofun c60 hc z3 (p:=pp.p) (.j2 (.t (ab (ab (ab p1'))))) (.j2 (.t (ab (ab (p2 _))))) (λm H3 z4=>?_));have z5:=(z4.pull .k2).set (o':=wr (M.map dw++[wf m])) rfl;refine vO.mk (z4.get .k2) (by rw[ce];omega) ⟨M++[⟨m,0,o.rs,o.x,(cs.drop o.i.toNat).take (o.j.toNat-o.i.toNat),sK (o.j.toNat-o.i.toNat) "open"⟩],by rw[f8];rfl,?_,?_⟩
  .rw[ci,ge,gC eo,f8,f8,e2]
   rfl
  .rw[ci,ge];exact Sep.push (.j2 (.j2 cC)) (z5.pull .k1)
 .obtain⟨M,rfl,e2,zz⟩:=hI;rw[ce,ce,hlP]at hl;rw[hl,take_length]at e2;refine q D M H e2 ?_;rw[hl,List.drop_length]at zz;have z2:=(zz.pull .k1).drop;have z3:=(z2.pull .k1).drop;exact Sep.cut (A:=pt D _::pt pl _::M.map (cq R)) (B:=L.map oZ) z3
end
abbrev dD (R:Rt)(c:Addr)(cs:List Int)(ws:List Str)(P:List (Int×Int))(ms:List V):av:=bx λe:Addr×Addr×Addr×Addr×List Pt=>pt c (ww (R.cad 20) e.1 [("ground",wf e.2.1),("parts",wf e.2.2.1),("machines",wf e.2.2.2.1)])::pt e.1 (.own c)::pt e.2.2.1 (wr (e.2.2.2.2.map cA))::pt e.2.2.2.1 (wr ms)::aV R e.2.1 cs ws::pu (e.2.2.2.2.map ij=P)::e.2.2.2.2.map c9
section
variable {c:Addr}{cs:List Int}{ws:List Str}{P:List (Int×Int)}{ms:List V}
def zD (z:Sep (dD R c cs ws P ms::O) H):∃ (dx gr pl ml:Addr) (L:List Pt),L.map ij=P/\Sep (pt c (ww (R.cad 20) dx [("ground",wf gr),("parts",wf pl),("machines",wf ml)])::pt dx (.own c)::pt pl (wr (L.map cA))::pt ml (wr ms)::aV R gr cs ws::(L.map c9++O)) H:=by
 obtain⟨⟨dx,gr,pl,ml,L⟩,z1⟩:=iK z;have z2:=z1.pull (.j2 .k3);exact⟨dx,gr,pl,ml,L,z2.pure,z2.drop⟩
def Ct {gr pl ml:Addr}{L:List Pt}(e:L.map ij=P)(z:Sep (pt c (ww (R.cad 20) dx [("ground",wf gr),("parts",wf pl),("machines",wf ml)])::pt dx (.own c)::pt pl (wr (L.map cA))::pt ml (wr ms)::aV R gr cs ws::(L.map c9++O)) H):Sep (dD R c cs ws P ms::O) H:=gQ (dx,gr,pl,ml,L) (Sep.push (.j2 .k3) (Sep.tR e z))
def kP:Ob R (dD R c cs ws P ms) c 20 ["ground","parts","machines"]:=by
 rintro H D ⟨⟨dx,gr,pl,ml,L⟩,D1,D2,_,_,_,⟨_,h⟩,_⟩;exact⟨dx,_,h,rfl⟩
def C7 (hk:1<=k)(z:Sep O H)(p:ag (aV R a cs ws) O Δ)(q:Q (wl cs.length) H):ae tab R k 52 [wf a] H Q E:=by
 obtain⟨hok,z2⟩:=fV (z.pull p);refine sP hk z2 ?_;rw[ce];exact q
def pU {L:List Mh}(ro:Ro K R)(hk:9<=k)(n0:1<=L.length)(n1:L.length<=4)(ok:∀ q ∈ L,KI cs.length q) (hd:∀ (n m:Nat) (a b:Mh),n<m->L[n]? =some a->L[m]? =some b->JC a b) (c0:1<=cs.length) (c60:cs.length<=60) (hc:c5 cs)
  (z:Sep (pt c (ww (R.cad 20) dx [])::pt dx (.own c)::pt C (wr (cs.map wl))::pt l (wr (L.map j7))::(L.map (pM R)++(L.map oZ++O))) H)
  (q:∀ (M:List Mm) H',M.map Cc=L.map (uh cs)->Sep (dD R c cs (sK cs.length "open") (L.map Bw) (M.map dw)::(M.map (cq R)++O)) H'->Q wp H'):ae tab R k 66 [wf c,wf C,wf l] H Q E:=by
 delta dU;right;intro a dx2 g1 g2 g3;refine n8 (a:=C) ro nofun c0 c60 hc (gJ z g1 g2 g3) .k2 (λH2 z2=>⟨rfl,?_⟩);right;rename_i H3 z3;refine af bj z3 (by symm) rfl rfl ?_;left;refine C7 nofun z3 (by symm) ?_;right;have z4:Sep (pt l (wr (L.map j7))::aV R a cs (sK cs.length "open")::pt c (ww (R.cad 20) dx [("ground",wf a)])::pt dx (.own c)::pt C (wr (cs.map wl))::(L.map (pM R)++(L.map oZ++O))) H3:=z3.sub (by ac_nf);refine rH (n:=cs.length) (L:=L) ro nofun n0 n1 z4 .e (λa ha=>?_) (λq hq=>(ok q hq).1) hd (λpl P H5 eP z5=>?_)
 .obtain⟨Δ,hp⟩:=bh (f:=oZ) ha;exact⟨_,.t (.j2 (.j2 (ab (hp O))))⟩
 have z6:Sep (pt pl (wr (P.map cA))::pt l (wr (L.map j7))::aV R a cs (sK cs.length "open")::pt c (ww (R.cad 20) dx [("ground",wf a)])::pt dx (.own c)::pt C (wr (cs.map wl))::(P.map c9++(L.map (pM R)++(L.map oZ++O)))) H5:=Sep.mv (P:=[_]) (Δ:=P.map c9) (L:=[_,_,_,_,_]) z5;clear z z2 z3 z4 z5;right;rename_i H6 z7;have z8:Sep (pt C (wr (cs.map wl))::pt l (wr (L.map j7))::pt pl (wr (P.map cA))::aV R a cs (sK cs.length "open")::pt c (ww (R.cad 20) dx [("ground",wf a),("parts",wf pl)])::pt dx (.own c)::(P.map c9++(L.map (pM R)++(L.map oZ++O)))) H6:=z7.sub (by ac_nf);have z9:Sep (pt C (wr (cs.map wl))::pt l (wr (L.map j7))::pt pl (wr (P.map cA))::(L.map (pM R)++(L.map oZ++(aV R a cs (sK cs.length "open")::pt c (ww (R.cad 20) dx [("ground",wf a),("parts",wf pl)])::pt dx (.own c)::(P.map c9++O))))) H6:=by
  have:=Sep.mv (P:=[_,_,_]) (Δ:=aV R a cs (sK cs.length "open")::pt c (ww (R.cad 20) dx [("ground",wf a),("parts",wf pl)])::pt dx (.own c)::P.map c9) (L:=L.map (pM R)++L.map oZ) (O:=O) (H:=H6) (by rw[le];exact z8);rw[le]at this;exact this
 clear z6 z7 z8;refine Ce (tp1:=false) (tp2:=false) (aU.of (z9.get .k2)) (aU.of (z9.get .k1)) ?_;refine pv (C:=C) (k:=k-1) ro nofun n1 ok c60 hc eP (λ{v w H Q} h=>?_) (λa ha=>?_) z9 (λml M H7 eM z10=>?_)
 .right;exact h
 .obtain⟨Δ,hp⟩:=bh (f:=c9) ha;exact⟨_,.t (.j2 (hp O))⟩
 have z11:Sep (pt ml (wr (M.map dw))::pt pl (wr (P.map cA))::aV R a cs (sK cs.length "open")::pt c (ww (R.cad 20) dx [("ground",wf a),("parts",wf pl)])::pt dx (.own c)::(P.map c9++(M.map (cq R)++O))) H7:=Sep.mv (P:=[_,_]) (Δ:=M.map (cq R)) (L:=aV R a cs (sK cs.length "open")::pt c (ww (R.cad 20) dx [("ground",wf a),("parts",wf pl)])::pt dx (.own c)::P.map c9) z10;clear z9 z10;right;rename_i H8 z12;refine q M H8 eM (Ct (dx:=dx) (gr:=a) (pl:=pl) (ml:=ml) eP ?_);exact z12.sub (by ac_nf)
end
section
variable {c m:Addr}{cs:List Int}{ws:List Str}{P:List (Int×Int)}{ms:List V}{i:Nat}
def lP (hk:2<=k)(hi:i<ms.length)(z:Sep O H)(p:ag (dD R c cs ws P ms) O Δ)(h:Q wp H):ae tab R k 67 [wf c,wl i] H Q E:=by
 delta cu;obtain⟨dx,gr,pl,ml,L,eL,z1⟩:=zD (z.pull p);right;refine aK (t:="int") nofun rfl ?_;right;refine aD (λh1=>?_) (λh=>absurd nofun h);right;exact h
def nY (hk:3<=k)(hi:ms[i]? =some (wf m))(z:Sep O H)(p:ag (dD R c cs ws P ms) O Δ)(h:Q (wf m) H):ae tab R k 68 [wf c,wl i] H Q E:=by
 delta cW;obtain⟨dx,gr,pl,ml,L,eL,z1⟩:=zD (z.pull p);right;refine af kP z p rfl rfl ?_;left;refine lP nofun (tz.mp hi).1 z p ?_;right;refine aJ (z1.get (by symm)) (aA nofun (by rw[sn];exact hi)) ?_;right;exact h
end
abbrev By (q:Mm):Prop:=0<=q.at_/\q.at_<=q.rs.length/\∀ r ∈ q.rs,Rw.ok r
abbrev Jc (q:Mm):Mm:=⟨q.m,(mS q.rs q.at_ q.x q.cs q.ws).at_,q.rs,(mS q.rs q.at_ q.x q.cs q.ws).x,(mS q.rs q.at_ q.x q.cs q.ws).cs,q.ws⟩
section
variable {c:Addr}{cs:List Int}{ws:List Str}{P:List (Int×Int)}{ms:List V}{i:Nat}{q:Mm}
def pq:Ob R (cq R q) q.m 18 ["deeds","store","boxes","at"]:=by
 rintro H D ⟨⟨l,s,b,L⟩,D1,D2,_,_,_,⟨dx,D3,D4,_,_,_,⟨_,h⟩,_⟩,_⟩;exact⟨dx,_,h,rfl⟩
def Cf (ro:Ro K R)(hk:12<=k)(hi:ms[i]? =some (wf q.m))(ok:By q)(z:Sep (cq R q::dD R c cs ws P ms::O) H)
  (h:∀ H',Sep (cq R (Jc q)::dD R c cs ws P ms::O) H'->Q (wn (mS q.rs q.at_ q.x q.cs q.ws).w) H'):ae tab R k 69 [wf c,wl i] H Q E:=by
 delta jn;right;refine af kP z .k1 rfl rfl ?_;left;refine nY nofun hi z .k1 ?_;refine af pq z .e rfl rfl ?_;obtain⟨l,s,b,L,eL,z1⟩:=CJ z;left;have e:=(om (R:=R) (O:=dD R c cs ws P ms::O) eL).1;refine Cj ro nofun ok.1 (by rw[e];exact ok.2.1) (om eL) z1 (λH2 z2=>h H2 ?_);exact Bh (q:=Jc q) eL z2
end
def yJ (ro:Ro K R)(hk:2<=k)(z:Sep O H)(p:ag (cq R q) O Δ)
  (h:∀ t t1 l1 H',Sep (pt t (wv [wl q.at_,wf t1,wf l1])::pt l1 (wr (q.cs.map wl))::tu t1 (q.x.ls.map wl)::O) H'->Q (wf t) H'):ae tab R k 44 [wf q.m] H Q E:=by
 obtain⟨l,s,b,L,eL,z1⟩:=CJ (z.pull p);refine yt ro hk z1 (λt t1 l1 H2 z2=>h t t1 l1 H2 ?_);have z2':Sep (pX R q.m l s b q.at_ (L.map d8)::aV R s q.cs q.ws::aP R b q.x::pt t (wv [wl q.at_,wf t1,wf l1])::pt l1 (wr (q.cs.map wl))::tu t1 (q.x.ls.map wl)::(L.reverse.map (uU R)++Δ)) H2:=z2.sub (by ac_nf);have z3:Sep (cq R q::pt t (wv [wl q.at_,wf t1,wf l1])::pt l1 (wr (q.cs.map wl))::tu t1 (q.x.ls.map wl)::Δ) H2:=Bh (l:=l) (s:=s) (b:=b) (L:=L) eL (Sep.mv (P:=[_,_,_]) (Δ:=[_,_,_]) (L:=L.reverse.map (uU R)) z2');exact Sep.push (.j2 (.t p)) z3
abbrev j0 (cs:List Int)(P:List (Int×Int))(M:List Mm):Nat->List Int
 |0=>cs
 |n+1=>match P[n]?,M[n]? with
  |some p,some q=>(j0 cs P M n).take p.1.toNat++q.cs++(j0 cs P M n).drop p.2.toNat
  |_,_=>j0 cs P M n
abbrev BC (n:Nat)(P:List (Int×Int))(M:List Mm):Prop:=P.length=M.length/\∀ (i:Nat) (p:Int×Int) (q:Mm),P[i]? =some p->M[i]? =some q->0<=p.1/\p.2<=n/\p.1+q.cs.length=p.2
def kf {cs:List Int}{P:List (Int×Int)}{M:List Mm}(f:BC cs.length P M):∀ n,(j0 cs P M n).length=cs.length
 |0=>rfl
 |n+1=>by
  have ih:=kf f n;unfold j0
  split
  .rename_i p q e1 e2;obtain⟨a,b,c⟩:=f.2 n p q e1 e2;rw[ci,ci,db,jp,ih]
   omega
  .exact ih
variable {M:List Mm}
def zE {c:Addr}{cs:List Int}{P:List (Int×Int)}(ro:Ro K R)(hk:4<=k)(c60:cs.length<=60)(n1:M.length<=4)(f:BC cs.length P M)(z:Sep (dD R c cs ws P (M.map dw)::(M.map (cq R)++O)) H)
  (h:∀ A H',Sep (pt A (wr ((j0 cs P M M.length).map wl))::dD R c cs ws P (M.map dw)::(M.map (cq R)++O)) H'->Q (wf A) H'):ae tab R k 71 [wf c] H Q E:=by
 delta gA;obtain⟨dx,gr,pl,ml,L,eL,z1⟩:=zD z;have hlL:L.length=M.length:=by
  have:=congrArg List.length eL;rw[ce]at this;rw[this];exact f.1
 clear z;right;refine af bj z1 (by symm) rfl rfl ?_;left;refine ug nofun z1 (by symm) (λA H2 z2=>?_);clear z1;right;refine Ce (tp1:=false) (tp2:=false) (aU.of (z2.get (by symm))) (aU.of (z2.get (by symm))) ?_;refine pF (xs:=L.map cA) (ys:=M.map dw) (λj U H=>∃ A u v,U=[some (wf c),some (wf A),u,v]/\Sep (pt A (wr ((j0 cs P M j).map wl))::pt c (ww (R.cad 20) dx [("ground",wf gr),("parts",wf pl),("machines",wf ml)])::pt dx (.own c)::pt pl (wr (L.map cA))::pt ml (wr (M.map dw))::aV R gr cs ws::(L.map c9++(M.map (cq R)++O))) H) (by rw[ce,ce,hlL]) ⟨A,none,none,rfl,z2⟩ ?_ ?_ ?_
 .rintro j U H ⟨A,u,v,rfl,zz⟩;exact⟨aU.of (zz.get (by symm)),aU.of (zz.get (by symm))⟩
 .rintro j x y T U H hx hy ⟨A,u,v,rfl,zz⟩ hT;rw[io]at hx hy;obtain⟨pp,ep,rfl⟩:=nw.mp hx;obtain⟨q,eq,rfl⟩:=nw.mp hy;have eP:P[j]? =some (ij pp):=by rw[<-eL,io,ep];rfl
  obtain⟨f0,f1,f2⟩:=f.2 j _ q eP eq;have fl:=kf f j;have e3:j0 cs P M (j+1)=(j0 cs P M j).take pp.i.toNat++q.cs++(j0 cs P M j).drop pp.j.toNat:=by
   show(match P[j]?,M[j]? with
    |some p,some q=>(j0 cs P M j).take p.1.toNat++q.cs++(j0 cs P M j).drop p.2.toNat
    |_,_=>j0 cs P M j)=_
   rw[eP,eq]
   rfl
  have hs4:=zz.iG (xs:=[cA pp,dw q]) hT;obtain⟨Δ1,p1⟩:=bh (f:=c9) (cr ep);obtain⟨Δ2,p2⟩:=bh (f:=cq R) (cr eq);left;refine⟨T,_,rfl,.inl (bc.of hs4.atT),rfl,?_⟩;generalize upd H T _=H4 at hs4⊢;have z5:=hs4.drop;clear hs4 zz;right;refine bP (z5.eX (.j2 (.j2 (.j2 (p1 _)))) ) rfl ?_;right;rename_i B H6 z6;have g1:pp.i=((pp.i.toNat:Nat):Int):=(Int.toNat_of_nonneg f0).symm;have g2:pp.j=((pp.j.toNat:Nat):Int):=(Int.toNat_of_nonneg (by have:(ij pp).1+(q.cs.length:Int)=(ij pp).2:=f2;have:(ij pp).2=pp.j:=rfl;omega)).symm;have g3:pp.j.toNat<=cs.length:=by have:pp.j<=(cs.length:Int):=f1;omega
  have g4:pp.i.toNat+q.cs.length=pp.j.toNat:=by have:pp.i+(q.cs.length:Int)=pp.j:=f2;omega
  rw[g1,xf (by rw[ce];omega),<-map_take]at z6;refine af pq z6 (.t (.j2 (.j2 (.j2 (ab (p2 _))))) ) rfl rfl ?_;left;refine yJ ro nofun z6 (.t (.j2 (.j2 (.j2 (ab (p2 _))))) ) (λt t1 l1 H7 z7=>?_);clear z5;refine bP z7.at rfl ?_;right;refine ub z7 (z7.get .k3) (z7.get .k1) (by rw[ce,ce,db];omega) (λC1 H8 z8=>?_);right;refine bP (z8.eX (.j2 (.j2 (.j2 (.j2 (.j2 (.t (p1 _))))))) ) rfl ?_;right;rename_i D2 H9 z9;rw[g2,yW (by rw[ce];omega),<-map_drop]at z9;refine ub z9 (z9.get .k1) z9.at (by simp only[ci,ce,db,jp];omega) (λA2 H10 z10=>?_);right;refine⟨A2,_,_,rfl,?_⟩;rw[e3,f8,f8];exact z10.sub (by ac_nf)
 .rintro U H ⟨A,u,v,rfl,zz⟩;right;rw[ce,hlL]at zz;refine h A _ ?_;exact(Ct (dx:=dx) (gr:=gr) (pl:=pl) (ml:=ml) eL (O:=pt A _::(M.map (cq R)++O)) (Sep.push (.j2 (.j2 (.t (ab .e)))) zz)).pull .k1
def DH:(3:Int)*10 ^ Int.toNat 8=300000000:=by decide
def LV {a b c d e:V}(ha:P a)(hb:P b)(hc:P c)(hd:P d)(he:P e):∀ v ∈ [a,b,c,d,e],P v:=λv hv=>by
 simp only[nb,not_mem_nil,or_false]at hv;rcases hv with rfl|rfl|rfl|rfl|rfl<;>assumption
def LN {a b c d e f:V}(ha:P a)(hb:P b)(hc:P c)(hd:P d)(he:P e)(hf:P f):∀ v ∈ [a,b,c,d,e,f],P v:=λv hv=>by
 simp only[nb,not_mem_nil,or_false]at hv;rcases hv with rfl|rfl|rfl|rfl|rfl|rfl<;>assumption
def w8 {M:Int}(hk:2<=k)(s:Sep (hand h m::O) H)(hm:m<=1099510000000)(hM0:1<=M)(hM1:M<=60)(q:∀ p ns H',1<=ns.length->(ns.length:Int)<=M->c5 ns->Sep (pt p (wr (ns.map wl))::hand h (m+300)::O) H'->Q (wf p) H'):ae tab R k 108 [wf h,wl M] H Q E:=by
 delta gZ;walk_at "gd";rename_i mn H2 mn0 mn1 hs2;refine xo (n:=(1+mn).toNat) nofun (λD ys H=>∃ ns:List Int,ys=ns.map wl/\c5 ns/\Sep (pt D (wr ys)::hand h (m+2+4*((ys.length:Nat):Int))::O) H) (λD hD=>⟨[],rfl,λi hi=>absurd hi (by simp),(ax ((hs2.new (o:=wr []) hD).pull .k1) (by simp)).pull .k1⟩) (λD ys H hl hI=>?_) (λD ys H hl hI=>?_)
 .obtain⟨ns,e,hc,hs⟩:=hI;walk_at "gd";rename_i l1 H3 hs3 r1 H4 r10 r11 hs4;rw[DH]at hs4;obtain⟨v,e2,N,rfl,N0,N1⟩:=d5 (xs:=[wl 3,wl 1000,wl 300000000]) (P:=inR 1 300000000) (r:=r1) r10 (by simpa using r11) (LO (.mk (by decide) (by decide)) (.mk (by decide) (by decide)) (.mk (by decide) (by decide)));refine aJ (by grind) e2 ?_;walk_at "gd";rename_i r2 H5 r20 r21 hs5;refine vb.mk (by grind) nofun ⟨ns++[r2],by rw[e];simp,tD hc nofun nofun,?_⟩;have hs7:=(hs5.pull (A:=pt D (wr ys)) (by symm)).set (o':=wr (ys++[wl r2])) rfl;refine((ax (n:=m+2+4*(((ys++[wl r2]).length:Nat):Int)) (hs7.pull (A:=hand h _) (by symm)) ?_).sub (by ac_nf));rw[ci,ge]
  omega
 .obtain⟨ns,rfl,hc,hs⟩:=hI;rw[ce]at hl;refine q D ns H nofun nofun hc ?_;exact(ax (hs.pull .k1) (by rw[ce];omega)).pull .k1
def vG {h t l w:Int}(z:Sep O H)(r:aO (pt d (.dK [])) (pt d (.dK [(.inr "here",wl h),(.inr "there",wl t),(.inr "left",wl l),(.inr "way",wl w)])) O Γ') (q:∀ H',Sep Γ' H'->Q (wf d) H'):t7 ["here","there","left","way"] d [wl h,wl t,wl l,wl w] H Q:=by
 obtain⟨Δ,p1,p2⟩:=r.bG;unfold t7;exact⟨z.get p1,q _ (z.put r rfl)⟩
def CU {M:Int}(hk:2<=k)(s:Sep (hand h m::O) H)(hm:m<=1099510000000)(hM0:1<=M)(hM1:M<=60)
  (q:∀ d x H',Bx.ok x->Sep (ao d x::hand h (m+30)::O) H'->Q (wf d) H'):ae tab R k 109 [wf h,wl M] H Q E:=by
 delta lb;walk_at "gd";refine xo (n:=2) nofun (λD ys H=>∃ ns:List Int,ys=ns.map wl/\(∀ i ∈ ns,-1000000000<=i/\i<=1000000000)/\Sep (pt D (wr ys)::hand h (m+3*((ys.length:Nat):Int))::O) H) (λD hD=>⟨[],rfl,λi hi=>absurd hi (by simp),(ax ((s.new (o:=wr []) hD).pull .k1) (by simp)).pull .k1⟩) (λD ys H hl hI=>?_) (λD ys H hl hI=>?_)
 .obtain⟨ns,e,hc,hs⟩:=hI;walk_at "gd";rename_i r1 H3 r10 r11 hs3 l1 H4 hs4 r2 H5 r20 r21 hs5;rw[mi]at hs5;obtain⟨v,e2,N,rfl,N0,N1⟩:=d5 (xs:=[wl r1,wl 0,wl (M-1),wl M,wl (-1),wl 1000000000]) (P:=inR (-1000000000) 1000000000) (r:=r2) r20 (by simpa using r21) (LN (.mk nofun nofun) (.mk (by decide) (by decide)) (.mk nofun nofun) (.mk nofun nofun) (.mk (by decide) (by decide)) (.mk (by decide) (by decide)));refine aJ (by grind) e2 ?_;refine vb.mk (by grind) nofun ⟨ns++[N],by rw[e];simp,λi hi=>?_,?_⟩
  .rcases mem_append.mp hi with hi|hi
   .exact hc i hi
   .rw[mem_singleton.mp hi];exact⟨N0,N1⟩
  have hs7:=(hs5.pull (A:=pt D (wr ys)) (by symm)).set (o':=wr (ys++[wl N])) rfl;refine((ax (n:=m+3*(((ys++[wl N]).length:Nat):Int)) (hs7.pull (A:=hand h _) (by symm)) ?_).sub (by ac_nf));rw[ci,ge]
  omega
 obtain⟨ns,rfl,hc,hs⟩:=hI;rw[ce]at hl
 match ns,hl,hc,hs with
 | [a,b],_,hc,hs=>
  have ha:=hc a (by simp);have hb:=hc b (by simp);have hs2:Sep (hand h (m+6)::pt D (wr [wl a,wl b])::O) H:=ax (hs.pull .k1) (by simp);clear s hs;walk_at "gd";rename_i r1 H3 r10 r11 hs3 l1 H4 hs4 r2 H5 r20 r21 hs5;rw[mi]at hs5;obtain⟨v,e2,lf,rfl,lf0,lf1⟩:=d5 (xs:=[wl r1,wl M,wl (M+1),wl 1000000000,wl 0]) (P:=inR 0 1000000000) (r:=r2) r20 (by simpa using r21) (LV (.mk nofun nofun) (.mk nofun nofun) (.mk nofun nofun) (.mk (by decide) (by decide)) (.mk (by decide) (by decide)));refine aJ (by grind) e2 ?_;right;intro d hd;have hs8:=hs5.new (o:=.dK []) hd;generalize upd H5 d (.dK [])=H8 at hs8⊢;clear hs2 hs3 hs4 hs5;walk_at "gd";rename_i w2 H9 w20 w21 hs9;refine vG hs9 (by ac_rfl) (λH10 hs10=>?_);clear hs8 hs9;walk_at "gd";rename_i l2 H11 hs11 r3 H12 r30 r31 hs12;rw[DH]at hs12;obtain⟨v,e3,N,rfl,N0,N1⟩:=d5 (xs:=[wl 3,wl 300000000]) (P:=inR 1 300000000) (r:=r3) r30 (by simpa using r31) (JI (.mk (by decide) (by decide)) (.mk (by decide) (by decide)));refine aJ (by grind) e3 ?_;clear hs10 hs11;walk_at "gd";rename_i sg H13 sg0 sg1 hs13;refine ve (k:=.inr "sign") (kvs':=[(.inr "here",wl a),(.inr "there",wl b),(.inr "left",wl lf),(.inr "way",wl (1-2*w2)),(.inr "sign",wl sg)]) hs13 (by ac_rfl) (pc rfl) rfl (λH14 hs14=>?_);clear hs12 hs13;walk_at "gd";rename_i mt H15 mt0 mt1 hs15;refine ve (k:=.inr "met") (kvs':=[(.inr "here",wl a),(.inr "there",wl b),(.inr "left",wl lf),(.inr "way",wl (1-2*w2)),(.inr "sign",wl sg),(.inr "met",wl mt)]) hs15 (by ac_rfl) (pc rfl) rfl (λH16 hs16=>?_);right;refine q d ⟨a,b,lf,1-2*w2,sg,mt⟩ H16 ?_ ?_
  .refine⟨ha,hb,⟨lf0,lf1⟩,?_,⟨?_,?_⟩,?_⟩<;>dsimp only<;>omega
  .have z:Sep (hand h (m+6+1+1+1+1+1+1)::pt d (.dK [(.inr "here",wl a),(.inr "there",wl b),(.inr "left",wl lf),(.inr "way",wl (1-2*w2)),(.inr "sign",wl sg),(.inr "met",wl mt)])::O) H16:=hs16.sub (by ac_nf);exact(ax z nofun).pull .k1
def EK {y:V}(s:Sep O H)(r:aO (pt a (wr xs)) (pt a (wr (xs.take i.toNat++y::xs.drop i.toNat))) O Γ')(h0:0<=i)(h1:i<=xs.length)(hl:xs.length<=10000)(h:∀ H',Sep Γ' H'->Q wp H'):EF .insert a xs [wl i,y] H Q:=by unfold EF;exact⟨i,y,rfl,h0,h1,hl,h _ (s.put r rfl)⟩
def Ae {f:α->av}{x:α}{l:List α}{r:Nat}:ag (f x) ((l.take r++x::l.drop r).map f++O) (l.map f++O):=by
 have e:l.map f++O=(l.take r).map f++((l.drop r).map f++O):=by rw[<-le,<-f8,take_append_drop]
 rw[e,f8,le];exact ab .e
abbrev j4 (n:Int)(L:List Pt):Prop:=(∀ q ∈ L,0<=q.i/\q.i<q.j/\q.j<=n)/\L.Pairwise BG
def BG.symm {a b:Pt}(h:BG a b):BG b a:=by unfold BG at h⊢;omega
def v7 {n:Int}{L:List Pt}{x:Pt}{r:Nat}(h:j4 n L)(h0:0<=x.i)(h1:x.i<x.j)(h2:x.j<=n)(hx:∀ q ∈ L,q.j<=x.i):j4 n (L.take r++x::L.drop r):=by
 have pm:(L.take r++x::L.drop r).Perm (x::L):=by
  have:=List.perm_middle (a:=x) (l₁:=L.take r) (l₂:=L.drop r)
  rwa [take_append_drop]at this
 refine⟨λq hq=>?_,(pm.pairwise_iff BG.symm).mpr (List.pairwise_cons.mpr ⟨λq hq=>?_,h.2⟩)⟩
 .rcases nb.mp (pm.mem_iff.mp hq) with rfl|hq
  .exact⟨h0,h1,h2⟩
  .exact h.1 q hq
 .have:=hx q hq;unfold BG
  omega
def zQ {n:Int}(hk:2<=k)(s:Sep (hand h m::O) H)(hm:m<=1099510000000)(n0:1<=n)(n60:n<=60)
  (q:∀ D (L:List Pt) H',1<=L.length->L.length<=4->j4 n L->Sep (pt D (wr (L.map cA))::hand h (m+30)::(L.map c9++O)) H'->Q (wf D) H'):ae tab R k 110 [wf h,wl n] H Q E:=by
 delta gH;walk_at "gd";rename_i D H1 hs1 r1 H2 r10 r11 hs2 l1 H3 hs3 r2 H4 r20 r21 hs4;obtain⟨v,e2,lo,rfl,lo0,lo1⟩:=d5 (xs:=[wl 0,wl r1]) (P:=inR 0 (n-1)) (r:=r2) r20 (by simpa using r21) (JI (.mk (by decide) nofun) (.mk nofun nofun));refine aJ (by grind) e2 ?_;have hs5:Sep (hand h (m+2)::pt D (wr [])::O) H4:=ax (hs4.sub (Γ':=hand h _::pt D (wr [])::O) (by ac_nf)) nofun;clear hs1 hs2 hs3 hs4 s;walk_at "gd";rename_i r3 H5 r30 r31 hs6;refine cY (λj U H=>∃ lw u v,∃ L:List Pt,U=[some (wf h),some (wl n),some (wf D),some (wl lw),u,v]/\0<=lw/\(∀ q ∈ L,q.j<=lw)/\(j=0->lw<n)/\(1<=j->1<=L.length)/\L.length<=j/\j4 n L/\Sep (pt D (wr (L.map cA))::hand h (m+3+5*(j:Int))::(L.map c9++O)) H) ?_ ?_ ?_
 .exact⟨lo,none,none,[],rfl,lo0,λq hq=>absurd hq (by simp),λ_=>by omega,λh=>absurd h nofun,re _,⟨λq hq=>absurd hq (by simp),.nil⟩,(ax hs6 nofun).pull .k1⟩
 .rintro j U H hj ⟨lw,u,v,L,rfl,g0,g1,g2,g3,g4,g5,zz⟩;walk_at "gd";refine aD (λhlt=>?_) (λhlt=>?_)
  .walk_at "gd";rename_i l2 H6 z6 r4 H7 r40 r41 z7;obtain⟨v2,e3,N,rfl,N0,N1⟩:=d5 (xs:=[wl (n-lw),wl (min 9 (n-lw))]) (P:=inR 1 (n-lw)) (r:=r4) r40 (by simpa using r41) (JI (.mk nofun nofun) (.mk nofun nofun));refine aJ (by grind) e3 ?_;clear z6;walk_at "gd";rename_i r5 H8 r50 r51 z8;have z9:Sep (pt D (wr (L.map cA))::hand h (m+3+5*(j:Int)+2)::(L.map c9++O)) H8:=(ax (z8.sub (Γ':=hand h _::pt D (wr (L.map cA))::(L.map c9++O)) (by ac_nf)) nofun).pull .k1;clear z7 z8;refine⟨D,_,rfl,z9.at,?_⟩;right;rw[ce];refine tQ nofun (z9.pull .k1) nofun nofun nofun (λr6 H9 r60 r61 z10=>?_);right;rename_i X H10 z11;have z12:Sep (c9 ⟨X,lw,lw+1+r5⟩::pt D (wr (L.map cA))::hand h (m+3+5*(j:Int)+2+1)::(L.map c9++O)) H10:=(z11.pull (A:=pt X _) (by symm)).toT.sub (Γ':=tu X _::pt D (wr (L.map cA))::hand h _::(L.map c9++O)) (by ac_nf);have z13:=Sep.push (.j2 (Ae (r:=r6.toNat))) z12;refine⟨_,z13.at,EK z13 .e r60 (by rw[ce];omega) (by rw[ce];omega) (λH11 z14=>?_)⟩;have em:(L.map cA).take r6.toNat++wf X::(L.map cA).drop r6.toNat=(L.take r6.toNat++(⟨X,lw,lw+1+r5⟩:Pt)::L.drop r6.toNat).map cA:=by
    rw[f8,map_cons,map_take,map_drop]
    rfl
   rw[em]at z14;clear z9 z10 z11 z12 z13;walk_at "gd";rename_i l3 H12 z15 r7 H13 r70 r71 z16;obtain⟨v3,e4,s,rfl,s0,s1⟩:=d5 (xs:=[wl 0,wl 0,wl 1,wl 3]) (P:=inR 0 3) (r:=r7) r70 (by simpa using r71) (LQ (.mk (by decide) (by decide)) (.mk (by decide) (by decide)) (.mk (by decide) (by decide)) (.mk (by decide) (by decide)));refine aJ (by grind) e4 ?_;right;refine⟨lw+1+r5+s,_,_,_,rfl,by omega,λq hq=>?_,λh=>absurd h nofun,λ_=>?_,?_,v7 (r:=r6.toNat) (x:=⟨X,lw,lw+1+r5⟩) g5 (by dsimp only;omega) (by dsimp only;omega) (by dsimp only;omega) (λq hq=>g1 q hq),?_⟩
   .rcases mem_append.mp hq with hq|hq
    .have:=g1 q (List.mem_of_mem_take hq)
     omega
    .rcases nb.mp hq with rfl|hq
     .dsimp only
      omega
     .have:=g1 q (List.mem_of_mem_drop hq)
      omega
   .rw[ci,length_cons]
    omega
   .rw[ci,length_cons,db,jp]
    omega
   .exact(ax (n:=m+3+5*(((j+1:Nat):Nat):Int)) (z16.pull (A:=hand h _) (by symm)) nofun).sub (by ac_nf)
  .right;refine⟨lw,_,_,L,rfl,g0,g1,λh=>absurd h nofun,λ_=>g3 nofun,by omega,g5,?_⟩;exact(ax (zz.pull .k1) nofun).pull .k1
 .rintro U H ⟨lw,u,v,L,rfl,g0,g1,g2,g3,g4,g5,zz⟩;right;refine q D L H (g3 nofun) nofun g5 ?_;exact(ax (zz.pull .k1) nofun).pull .k1
structure Mb where
 t:Addr
 SP:Addr
 d:Addr
 i:Int
 j:Int
 S:List (Addr×Rw)
 x:Bx
abbrev bY (q:Mb):V:=wf q.t
abbrev bR (q:Mb):Int×Int:=(q.i,q.j)
abbrev dj (a b:Int×Int):Prop:=min a.2 b.2<=max a.1 b.1
abbrev bz (q:Mb):av:=bx λ_:Unit=>tu q.t [wl q.i,wl q.j,wf q.SP,wf q.d]::pt q.SP (wr (q.S.map d8))::ao q.d q.x::q.S.reverse.map f9
def rf {q:Mb}(z:Sep (bz q::O) H):Sep (tu q.t [wl q.i,wl q.j,wf q.SP,wf q.d]::pt q.SP (wr (q.S.map d8))::ao q.d q.x::(q.S.reverse.map f9++O)) H:=let⟨_,z⟩:=iK z;z
def AV {q:Mb}(z:Sep (tu q.t [wl q.i,wl q.j,wf q.SP,wf q.d]::pt q.SP (wr (q.S.map d8))::ao q.d q.x::(q.S.reverse.map f9++O)) H):Sep (bz q::O) H:=gQ () z
abbrev JE (n:Int)(q:Mb):Prop:=(0<=q.i/\q.i<q.j/\q.j<=n)/\(1<=q.S.length/\q.S.length<=24)/\(∀ r ∈ q.S.map (·.2),Rw.ok r)/\q.x.ok
abbrev GY (q:Mh):(Int×Int)×List Rw×Bx:=((q.i,q.j),q.rs,q.x)
abbrev yU (q:Mb):(Int×Int)×List Rw×Bx:=((q.i,q.j),q.S.map (·.2),q.x)
abbrev D9 (cs:List Int)(e:(Int×Int)×List Rw×Bx):Mm:=⟨0,0,e.2.1,e.2.2,(cs.drop e.1.1.toNat).take (e.1.2.toNat-e.1.1.toNat),sK (e.1.2.toNat-e.1.1.toNat) "open"⟩
variable {L:List Mb}
def xS {G:List Mh}(e:G.map GY=L.map yU){a:Mh}(h:G[n]? =some a):∃ b,L[n]? =some b/\GY a=yU b:=by
 have h2:(G.map GY)[n]? =(L.map yU)[n]? :=by rw[e]
 rw[io,io,h]at h2;obtain⟨b,e1,e2⟩:=nw.mp h2.symm;exact⟨b,e1,e2.symm⟩
def uX {o:Mb}(h:L[n]? =some o):(L.map bY)[n]? =some (wf o.t):=by rw[io,h];rfl
def CF {ML:Addr}{cs:List Int}(ro:Ro K R)(hk:10<=k)(n0:1<=L.length)(n1:L.length<=4)(ok:∀ q ∈ L,JE cs.length q) (hd:(L.map bR).Pairwise dj) (c0:1<=cs.length) (c60:cs.length<=60) (hc:c5 cs) (z:Sep (pt C (wr (cs.map wl))::pt ML (wr (L.map bY))::(L.map bz++O)) H)
  (h:∀ c (M:List Mm) H',M.map Cc=L.map (λq=>D9 cs (yU q))->Sep (dD R c cs (sK cs.length "open") (L.map bR) (M.map dw)::(M.map (cq R)++(pt C (wr (cs.map wl))::pt ML (wr (L.map bY))::(L.map bz++O)))) H'->Q (wf c) H'):ae tab R k 111 [wf C,wf ML] H Q E:=by
 delta jj;right;rename_i SM H1 z1;have z2:Sep (pt SM (wr [])::pt C (wr (cs.map wl))::pt ML (wr (L.map bY))::(L.map bz++O)) H1:=z1;clear z z1;refine dH (xs:=L.map bY) (λj U H=>∃ u3 u4 u5 u6 u7,∃ G:List Mh,U=[some (wf C),some (wf ML),some (wf SM),u3,u4,u5,u6,u7]/\G.map GY=(L.take j).map yU/\Sep (pt SM (wr (G.map j7))::pt C (wr (cs.map wl))::pt ML (wr (L.map bY))::(G.map (pM R)++(G.map oZ++(L.map bz++O)))) H) ?_ ?_ ?_ ?_
 .exact⟨none,none,none,none,none,[],rfl,rfl,z2⟩
 .rintro j U H ⟨u3,u4,u5,u6,u7,G,rfl,e,zz⟩;exact aU.of (zz.get .k2)
 .rintro j x U H hx ⟨u3,u4,u5,u6,u7,G,rfl,e,zz⟩;rw[io]at hx;obtain⟨o,eo,rfl⟩:=nw.mp hx;obtain⟨oi,⟨os0,os1⟩,oR,ox⟩:=ok o (cr eo);have z3:=rf (zz.pull (.j2 (.t (ab (ab (aw eo))))));generalize eT:G.map (pM R)++(G.map oZ++((L.eraseIdx j).map bz++O))=T at z3;clear zz z2;left;refine⟨o.t,_,rfl,.inl (bc.of z3.atT),rfl,?_⟩;obtain⟨ot,oSP,od,oii,oj,oS,⟨xh,xt,xl,xw,xs,xm⟩⟩:=o;dsimp only at*;walk_at "wd";intro b dx2 g1 g2 g3;refine yx ro nofun ox (gJ z3 g1 g2 g3) (λH4 z4=>⟨rfl,?_⟩);generalize (⟨xh,xt,xl,xw,xs,xm⟩:Bx)=x at*;have z5:Sep (aP R b x::tu ot [wl oii,wl oj,wf oSP,wf od]::pt oSP (wr (oS.map d8))::ao od x::pt SM (wr (G.map j7))::pt C (wr (cs.map wl))::pt ML (wr (L.map bY))::(oS.reverse.map f9++T)) H4:=Sep.mv (P:=[_,_,_,_]) (Δ:=oS.reverse.map f9) (L:=[_,_,_]) (O:=T) z4;clear z3 z4;have hs:=rA (S:=oS) (O:=T) rfl oR;right;refine⟨SM,_,rfl,z5.get (by symm),?_⟩;right;refine xN (xs:=oS.map d8) (by rw[ce];omega) (λD ys H=>∃ Lr:List (Addr×Rw),ys=Lr.map d8/\Lr.map (·.2)=(oS.map (·.2)).take ys.length/\Sep (pt D (wr ys)::aP R b x::tu ot [wl oii,wl oj,wf oSP,wf od]::pt oSP (wr (oS.map d8))::ao od x::pt SM (wr (G.map j7))::pt C (wr (cs.map wl))::pt ML (wr (L.map bY))::(Lr.reverse.map (uU R)++(oS.reverse.map f9++T))) H) (λD ys H hI=>?_) (λD hD=>⟨[],rfl,rfl,z5.new (o:=wr []) hD⟩) (λD ys y H hy hI=>?_) (λDL ys H hl2 hI=>?_)
  .obtain⟨Lr,_,_,hs⟩:=hI;exact aU.of (by grind)
  .obtain⟨Lr,e1,e2,z6⟩:=hI;have hyl:=(tz.mp hy).1;have er:(oS.map (·.2))[ys.length]? =some ((oS.map (·.2))[ys.length]'(by have:=hs.1;omega)):=li _;generalize (oS.map (·.2))[ys.length]'(by have:=hs.1;omega)=r at er;obtain⟨t,Δ,e3,pp⟩:=hs.2.2 _ _ er;rw[hy]at e3;cases e3;right;refine yN r ro nofun (hs.2.1 _ (cr er)) (Sep.D0 (z6.eX (.j2 (.j2 (.j2 (.j2 (ab pp))))))  z6) (λde H7 z7=>?_);have z8:=(z7.pull (A:=pt D (wr ys)) (by symm)).set (o':=wr (ys++[wf de])) rfl;refine vb.mk (z7.get (by symm)) (by rw[ce]at hyl;omega) ⟨Lr++[(de,r)],by rw[e1];simp[d8],?_,?_⟩
   .rw[f8,e2,ci,ge,take_succ,er]
    rfl
   .rw[List.reverse_append,f8,le];show Sep (pt D _::aP R b x::tu ot [wl oii,wl oj,wf oSP,wf od]::pt oSP (wr (oS.map d8))::ao od x::pt SM (wr (G.map j7))::pt C (wr (cs.map wl))::pt ML (wr (L.map bY))::mD R de r::(Lr.reverse.map (uU R)++(oS.reverse.map f9++T))) _;exact z8.sub (by ac_nf)
  obtain⟨Lr,rfl,e2,z6⟩:=hI;have e3:Lr.map (·.2)=oS.map (·.2):=by
   rw[e2,hl2,hs.1];exact take_of_length_le (re _)
  clear z5;right;rename_i t2 H8 z7;have hlG:G.length<=4:=by
   have:=congrArg List.length e;rw[ce,ce,db]at this
   omega
  refine⟨_,z7.get (by symm),lj z7 (by ac_rfl) (by rw[ce];omega) (λH9 z8=>?_)⟩;right;refine⟨_,_,_,_,_,G++[⟨t2,oii,oj,DL,b,oS.map (·.2),x⟩],rfl,?_,?_⟩
  .rw[gC eo,f8,f8,e]
   rfl
  have z9:Sep (pt DL (wr (Lr.map d8))::aP R b x::tu t2 [wl oii,wl oj,wf DL,wf b]::tu ot [wl oii,wl oj,wf oSP,wf od]::pt oSP (wr (oS.map d8))::ao od x::pt SM (wr (G.map j7++[wf t2]))::pt C (wr (cs.map wl))::pt ML (wr (L.map bY))::(Lr.reverse.map (uU R)++(oS.reverse.map f9++T))) H9:=z8.toT.sub (by ac_nf);have z10:Sep (pM R ⟨t2,oii,oj,DL,b,oS.map (·.2),x⟩::tu t2 [wl oii,wl oj,wf DL,wf b]::tu ot [wl oii,wl oj,wf oSP,wf od]::pt oSP (wr (oS.map d8))::ao od x::pt SM (wr (G.map j7++[wf t2]))::pt C (wr (cs.map wl))::pt ML (wr (L.map bY))::(oS.reverse.map f9++T)) H9:=La (L:=Lr) e3 (Sep.mv (P:=[_,_]) (Δ:=[_,_,_,_,_,_,_]) (L:=Lr.reverse.map (uU R)) z9);have z11:Sep (tu ot [wl oii,wl oj,wf oSP,wf od]::pt oSP (wr (oS.map d8))::ao od x::pM R ⟨t2,oii,oj,DL,b,oS.map (·.2),x⟩::tu t2 [wl oii,wl oj,wf DL,wf b]::pt SM (wr (G.map j7++[wf t2]))::pt C (wr (cs.map wl))::pt ML (wr (L.map bY))::(oS.reverse.map f9++T)) H9:=z10.sub (by ac_nf);have z12:Sep (bz ⟨ot,oSP,od,oii,oj,oS,x⟩::pM R ⟨t2,oii,oj,DL,b,oS.map (·.2),x⟩::oZ ⟨t2,oii,oj,DL,b,oS.map (·.2),x⟩::pt SM (wr (G.map j7++[wf t2]))::pt C (wr (cs.map wl))::pt ML (wr (L.map bY))::T) H9:=AV (Sep.mv (P:=[_,_,_]) (Δ:=[_,_,_,_,_]) (L:=oS.reverse.map f9) z11);subst eT;have z13:=Sep.push (.j2 (.j2 (.t (ab (ab (aw eo)))))) z12;have z14:=Sep.push (.j2 (.j2 cC)) z13;have z15:=Sep.push (.j2 (.t (ab cC))) z14;rw[f8 (f:=j7)];exact z15
 .rintro U H ⟨u3,u4,u5,u6,u7,G,rfl,e,zz⟩;rw[ce,take_length]at e;have hlG:G.length=L.length:=by
   have:=congrArg List.length e
   rwa [ce,ce]at this
  clear z2;right;rename_i C2 H2 z3;intro c dx g1 g2 g3;have z4:Sep (pt C2 (wr (cs.map wl))::pt SM (wr (G.map j7))::(G.map (pM R)++(G.map oZ++(pt C (wr (cs.map wl))::pt ML (wr (L.map bY))::(L.map bz++O))))) H2:=by
   have:=Sep.mv (P:=[_,_]) (Δ:=[_,_]) (L:=G.map (pM R)++G.map oZ) (O:=L.map bz++O) (H:=H2) (by rw[le];exact z3);rw[le]at this;exact this
  refine pU ro nofun nofun nofun (λq hq=>?_) (λn m a b hn h1 h2=>?_) c0 c60 hc (gJ z4 g1 g2 g3) (λM H5 eM z5=>⟨rfl,?_⟩)
  .obtain⟨n,hn⟩:=getElem?_of_mem hq;obtain⟨o,eo,e2⟩:=xS e hn;obtain⟨oi,os,oR,ox⟩:=ok o (cr eo);have a1:q.i=o.i:=congrArg (·.1.1) e2;have a2:q.j=o.j:=congrArg (·.1.2) e2;have a3:q.rs=o.S.map (·.2):=congrArg (·.2.1) e2;unfold KI;rw[a1,a2,a3,ce];exact⟨oi,os⟩
  .obtain⟨o1,eo1,e1⟩:=xS e h1;obtain⟨o2,eo2,e2⟩:=xS e h2;have a1:a.i=o1.i:=congrArg (·.1.1) e1;have a2:a.j=o1.j:=congrArg (·.1.2) e1;have a3:b.i=o2.i:=congrArg (·.1.1) e2;have a4:b.j=o2.j:=congrArg (·.1.2) e2;have hp:=List.pairwise_iff_getElem.mp (List.pairwise_map.mp hd) n m (tz.mp eo1).1 (tz.mp eo2).1 hn;rw[(tz.mp eo1).2,(tz.mp eo2).2]at hp;have hp:min o1.j o2.j<=max o1.i o2.i:=hp;unfold JC;rw[a1,a2,a3,a4];exact hp
  .right;refine h c M H5 ?_ ?_
   .rw[eM];have:∀ G:List Mh,G.map (uh cs)=(G.map GY).map (D9 cs):=λG=>by rw[List.map_map];rfl
    rw[this,e,List.map_map]
    rfl
   .have e5:G.map Bw=L.map bR:=by
     have h1:G.map Bw=(G.map GY).map (·.1):=by rw[List.map_map];rfl
     rw[h1,e,List.map_map]
     rfl
    rw[e5]at z5;exact z5
structure Wm where
 w:Addr
 at_:Int
 x:Bx
 cs:List Int
 ws:List Str
abbrev eh (q:Wm):V:=wf q.w
abbrev wX (q:Wm):Int×Bx×List Int×List Str:=(q.at_,q.x,q.cs,q.ws)
abbrev um (q:Mm):Int×Bx×List Int×List Str:=(q.at_,q.x,q.cs,q.ws)
abbrev eg (q:Wm):av:=bx λe:Addr×Addr×Addr=>uu q.w e.1 e.2.1 e.2.2 q.at_ q.x q.cs q.ws []
def EZ {q:Wm}(z:Sep (eg q::O) H):∃ d p lv,Sep (uu q.w d p lv q.at_ q.x q.cs q.ws O) H:=by
 obtain⟨⟨d,p,lv⟩,z1⟩:=iK z;exact⟨d,p,lv,z1⟩
def Bg {q:Wm}{p lv:Addr}(z:Sep (uu q.w d p lv q.at_ q.x q.cs q.ws O) H):Sep (eg q::O) H:=gQ (d,p,lv) z
def wM {ML:Addr}{cs:List Int}(hk:1<=k)(n1:L.length<=4)(ok:∀ q ∈ L,JE cs.length q) (c60:cs.length<=60) (z:Sep (pt C (wr (cs.map wl))::pt ML (wr (L.map bY))::(L.map bz++O)) H)
  (h:∀ WL (W:List Wm) H',W.map wX=L.map (λq=>um (D9 cs (yU q)))->Sep (pt WL (wr (W.map eh))::pt C (wr (cs.map wl))::pt ML (wr (L.map bY))::(W.map eg++(L.map bz++O))) H'->Q (wf WL) H'):ae tab R k 112 [wf C,wf ML] H Q E:=by
 delta fW;right;rename_i WL H1 z1;have z2:Sep (pt WL (wr [])::pt C (wr (cs.map wl))::pt ML (wr (L.map bY))::(L.map bz++O)) H1:=z1;clear z z1;refine dH (xs:=L.map bY) (λj U H=>∃ u3 u4 u5 u6,∃ W:List Wm,U=[some (wf C),some (wf ML),some (wf WL),u3,u4,u5,u6]/\W.map wX=(L.take j).map (λq=>um (D9 cs (yU q)))/\Sep (pt WL (wr (W.map eh))::pt C (wr (cs.map wl))::pt ML (wr (L.map bY))::(W.map eg++(L.map bz++O))) H) ?_ ?_ ?_ ?_
 .exact⟨none,none,none,none,[],rfl,rfl,z2⟩
 .rintro j U H ⟨u3,u4,u5,u6,W,rfl,e,zz⟩;exact aU.of (zz.get .k2)
 .rintro j x U H hx ⟨u3,u4,u5,u6,W,rfl,e,zz⟩;rw[io]at hx;obtain⟨o,eo,rfl⟩:=nw.mp hx;obtain⟨⟨oi0,oi1,oi2⟩,⟨os0,os1⟩,oR,ox⟩:=ok o (cr eo);have hlW:W.length<=4:=by
   have:=congrArg List.length e;rw[ce,ce,db]at this
   omega
  have z3:=rf (zz.pull (.j2 (.t (ab (aw eo)))));generalize eT:W.map eg++((L.eraseIdx j).map bz++O)=T at z3;clear zz z2;have z4:Sep (tu o.t [wl o.i,wl o.j,wf o.SP,wf o.d]::pt o.SP (wr (o.S.map d8))::ao o.d o.x::pt WL (wr (W.map eh))::pt C (wr (cs.map wl))::pt ML (wr (L.map bY))::(o.S.reverse.map f9++T)) H:=Sep.mv (P:=[_,_,_]) (Δ:=o.S.reverse.map f9) (L:=[_,_,_]) (O:=T) z3;clear z3;left;refine⟨o.t,_,rfl,.inl (bc.of z4.atT),rfl,?_⟩;right;refine⟨WL,_,rfl,z4.get (by symm),?_⟩;right;refine tV (kvs:=wY.zip (o.x.ls.map wl)) z4 (z4.get .k2) (λd2 H2 z5=>?_);have z6:Sep (ao d2 o.x::tu o.t [wl o.i,wl o.j,wf o.SP,wf o.d]::pt o.SP (wr (o.S.map d8))::ao o.d o.x::pt WL (wr (W.map eh))::pt C (wr (cs.map wl))::pt ML (wr (L.map bY))::(o.S.reverse.map f9++T)) H2:=z5;clear z4 z5;right;rename_i p H3 z7 b1 H4 z8 lv H5 z9 w H6 z10;have ec:=zM (xs:=cs.map wl) (n:=o.i.toNat) (m:=o.j.toNat) (by rw[ce];omega) (by rw[ce];omega);rw[Int.toNat_of_nonneg oi0,Int.toNat_of_nonneg (by omega:0<=o.j),<-map_drop,<-map_take]at ec;have en:(sK (o.j-o.i).toNat [wn "open"]).flatten=(sK (o.j.toNat-o.i.toNat) ("open":Str)).map wn:=by
   have:=t4 (x:=wn "open") (n:=o.j.toNat-o.i.toNat);rw[sn]at this;rw[show(o.j-o.i).toNat=o.j.toNat-o.i.toNat by omega,map_replicate];exact this
  rw[ec,en]at z10;refine⟨_,z10.get (by symm),lj z10 (by ac_rfl) (by rw[ce];omega) (λH7 z11=>?_)⟩;right;refine⟨_,_,_,_,W++[⟨w,0,o.x,(cs.drop o.i.toNat).take (o.j.toNat-o.i.toNat),sK (o.j.toNat-o.i.toNat) "open"⟩],rfl,?_,?_⟩
  .rw[gC eo,f8,f8,e]
   rfl
  have z12:Sep (tu o.t [wl o.i,wl o.j,wf o.SP,wf o.d]::pt o.SP (wr (o.S.map d8))::ao o.d o.x::pt w (wr [wl 0,wf d2,wf p,wf lv])::ao d2 o.x::pt p (wr (((cs.drop o.i.toNat).take (o.j.toNat-o.i.toNat)).map wl))::pt lv (wr ((sK (o.j.toNat-o.i.toNat) ("open":Str)).map wn))::pt WL (wr (W.map eh++[wf w]))::pt C (wr (cs.map wl))::pt ML (wr (L.map bY))::(o.S.reverse.map f9++T)) H7:=z11.sub (by ac_nf);have z13:Sep (bz o::pt w (wr [wl 0,wf d2,wf p,wf lv])::ao d2 o.x::pt p (wr (((cs.drop o.i.toNat).take (o.j.toNat-o.i.toNat)).map wl))::pt lv (wr ((sK (o.j.toNat-o.i.toNat) ("open":Str)).map wn))::pt WL (wr (W.map eh++[wf w]))::pt C (wr (cs.map wl))::pt ML (wr (L.map bY))::T) H7:=AV (Sep.mv (P:=[_,_,_]) (Δ:=[_,_,_,_,_,_,_]) (L:=o.S.reverse.map f9) z12);subst eT;have z14:=Sep.push (.j2 (.j2 (.j2 (.t (ab (aw eo)))))) z13;have z15:=Bg (q:=⟨w,0,o.x,(cs.drop o.i.toNat).take (o.j.toNat-o.i.toNat),sK (o.j.toNat-o.i.toNat) "open"⟩) z14;have z16:=Sep.push (.j2 (.t cC)) z15;rw[f8 (f:=eh)];exact z16
 .rintro U H ⟨u3,u4,u5,u6,W,rfl,e,zz⟩;right;rw[ce,take_length]at e;exact h WL W H e zz
section
variable {t t1 l1 w d p lv:Addr}{at_:Int}{x:Bx}{cs:List Int}{ws:List Str}
end
def AI {A B:List Int}{a:Nat}{v:Int}(hA:a+n<A.length)(hB:B[n]? =some v):(A.take a++B.take n++A.drop (a+n)).set (a+n) v=A.take a++B.take (n+1)++A.drop (a+(n+1)):=by
 have hn:=(tz.mp hB).1;have hl:(A.take a++B.take n).length=a+n:=by rw[ci,db,db];omega
 rw[List.set_append_right _ _ nofun,hl,Nat.sub_self,List.drop_eq_getElem_cons hA,List.set_cons_zero,take_succ,hB];simp[le,Nat.add_assoc]
structure rF (cs:List Int) (L:List Mb) (M:List Mm) (W:List Wm):Prop where
 ws:W.map wX=M.map um
 rs:M.map (·.rs)=L.map (λq=>q.S.map (·.2))
 ok:∀ q ∈ M,By q
 fit:BC cs.length (L.map bR) M
def rF.at {cs:List Int}{L:List Mb}{M:List Mm}{W:List Wm}(h:rF cs L M W){i:Nat}(hi:i<L.length):∃ o q u,L[i]? =some o/\M[i]? =some q/\W[i]? =some u/\wX u=um q/\q.rs=o.S.map (·.2)/\By q/\0<=o.i/\o.j<=cs.length/\o.i+q.cs.length=o.j:=by
 have l1:L.length=M.length:=by have:=h.fit.1;rwa [ce]at this
 have l2:W.length=M.length:=by
  have:=congrArg List.length h.ws
  rwa [ce,ce]at this
 have e1:L[i]? =some L[i]:=li hi;have e2:M[i]? =some (M[i]'nofun):=li _;have e3:W[i]? =some (W[i]'nofun):=li _;refine⟨_,_,_,e1,e2,e3,?_,?_,h.ok _ (cr e2),h.fit.2 i _ _ (by rw[io,e1];rfl) e2⟩
 .have h2:(W.map wX)[i]? =(M.map um)[i]? :=by rw[h.ws]
  rw[io,io,e2,e3]at h2;exact Option.some.inj h2
 .have h2:(M.map (·.rs))[i]? =(L.map (λq=>q.S.map (·.2)))[i]? :=by rw[h.rs]
  rw[io,io,e2,e1]at h2;exact Option.some.inj h2
section
variable {c C ML WL:Addr}{cs:List Int}{ws0:List Str}{L:List Mb}{M:List Mm}{W:List Wm}
def Hq {i:Nat}(h:M[i]? =some q):(M.map dw)[i]? =some (wf q.m):=by rw[io,h];rfl
def ue {i:Nat}{q:Wm}(h:W[i]? =some q):(W.map eh)[i]? =some (wf q.w):=by rw[io,h];rfl
def L8 {i:Nat}(h:xs[i]? =some v):nZ xs (0+(i:Int))=some v:=aA nofun (by rw[show(0+(i:Int)).toNat=i by omega];exact h)
end
variable {W:List Wm}
section
variable {q:Mm}{o:Mb}{u:Wm}
def fD {β:Type}{f:α->β}{l:List α}{i:Nat}{x y:α}(h:l[i]? =some x)(e:f y=f x):(l.set i y).map f=l.map f:=by
 rw[List.map_set,e];exact set_same (by rw[io,h];rfl)
def rF.set {cs:List Int}{i:Nat}{q':Mm}{u':Wm}(h:rF cs L M W)(eq:M[i]? =some q)(eu:W[i]? =some u)(e1:wX u'=um q')(e2:q'.rs=q.rs)(e3:By q')(e4:q'.cs.length=q.cs.length):rF cs L (M.set i q') (W.set i u') where
 ws:=by rw[List.map_set,List.map_set,h.ws,e1]
 rs:=by rw[fD (f:=λq:Mm=>q.rs) eq e2];exact h.rs
 ok:=λa ha=>by
  rcases List.mem_or_eq_of_mem_set ha with ha|rfl
  .exact h.ok a ha
  .exact e3
 fit:=⟨by rw[length_set];exact h.fit.1,λj p a e5 e6=>by
  by_cases hj:i=j
  .subst hj;rw[getElem?_set_self (tz.mp eq).1]at e6;cases e6;rw[e4];exact h.fit.2 i p q e5 eq
  .rw[getElem?_set_ne hj]at e6;exact h.fit.2 j p a e5 e6⟩
end
abbrev CG:lY->lY
 | .cons (.for _ _ b) _=>b
 |_=>.nil
section
variable {o:Mb}{u:Wm}{d p lv:Addr}{at_:Int}{x:Bx}{cs:List Int}{ws:List Str}
noncomputable abbrev KR (o:Mb)(O:List av):List av:=tu o.t [wl o.i,wl o.j,wf o.SP,wf o.d]::ao o.d o.x::(o.S.reverse.map f9++O)
def G9 (z:Sep (eg u::bz o::O) H):∃ d p lv,Sep (uu u.w d p lv u.at_ u.x u.cs u.ws (pt o.SP (wr (o.S.map d8))::KR o O)) H:=by
 obtain⟨d,p,lv,z1⟩:=EZ z;have z2:=rf (z1.pull (.t .k3));have z3:Sep (tu o.t [wl o.i,wl o.j,wf o.SP,wf o.d]::pt o.SP (wr (o.S.map d8))::ao o.d o.x::uu u.w d p lv u.at_ u.x u.cs u.ws (o.S.reverse.map f9++O)) H:=Sep.mv (P:=[_,_,_]) (Δ:=o.S.reverse.map f9) (L:=[_,_,_,_]) (O:=O) z2;exact⟨d,p,lv,z3.sub (by ac_nf)⟩
def Ip {w:Addr}(z:Sep (uu w d p lv at_ x cs ws (pt o.SP (wr (o.S.map d8))::KR o O)) H):Sep (eg ⟨w,at_,x,cs,ws⟩::bz o::O) H:=by
 have z6:Sep (tu o.t [wl o.i,wl o.j,wf o.SP,wf o.d]::pt o.SP (wr (o.S.map d8))::ao o.d o.x::uu w d p lv at_ x cs ws (o.S.reverse.map f9++O)) H:=z.sub (by ac_nf);have z7:Sep (bz o::uu w d p lv at_ x cs ws O) H:=AV (Sep.mv (P:=[_,_,_]) (Δ:=[_,_,_,_]) (L:=o.S.reverse.map f9) z6);have z8:Sep (uu w d p lv at_ x cs ws (bz o::O)) H:=z7.sub (by ac_nf);exact Bg (q:=⟨w,at_,x,cs,ws⟩) z8
def wZ (oR:∀ r ∈ o.S.map (·.2),Rw.ok r):ig (KR o O) (o.S.map d8) (o.S.map (·.2)):=((rA (S:=o.S) (O:=O) rfl oR).more (A:=ao o.d o.x)).more (A:=tu o.t [wl o.i,wl o.j,wf o.SP,wf o.d])
abbrev Li (rs:List Rw)(u:Wm):Wm:=⟨u.w,(mS rs u.at_ u.x u.cs u.ws).at_,(mS rs u.at_ u.x u.cs u.ws).x,(mS rs u.at_ u.x u.cs u.ws).cs,u.ws⟩
def yw (hk:4<=k)(h0:0<=u.at_)(h1:u.at_<=(o.S.map (·.2)).length)(hx:0<=u.x.l)(hl:u.cs.length=u.ws.length)(oR:∀ r ∈ o.S.map (·.2),Rw.ok r) (z:Sep (eg u::bz o::O) H)
  (h:∀ H',Sep (eg (Li (o.S.map (·.2)) u)::bz o::O) H'->Q (wn (mS (o.S.map (·.2)) u.at_ u.x u.cs u.ws).w) H'):ae tab R k 113 [wf o.SP,wf u.w] H Q E:=by
 obtain⟨d,p,lv,z1⟩:=G9 z;have hs:=wZ (O:=O) oR;exact Gk hk h0 (by rw[hs.1];exact h1) hx hl hs z1 (λH2 z5=>h H2 (Ip z5))
end
def GO (h:By q):By (Jc q):=let⟨g0,g1,_⟩:=Ji (x:=q.x) (cs:=q.cs) (ws:=q.ws) h.1 h.2.1 h.2.2;⟨g0,g1,h.2.2⟩
def yE (z:Sep (cq R q::O) H):0<=q.x.l/\q.cs.length=q.ws.length/\q.cs.length<=60:=by
 obtain⟨l,s,b,L,eL,z1⟩:=CJ z;exact⟨(lD z1 .k2).2.2.1.1,(cM z1 .k1).1,(cM z1 .k1).2.2.1⟩
section
variable {m l s b:Addr}{at_:Int}{ds:List V}{cs:List Int}{ws:List Str}
def xq {j:Int}{wd:Str}(ro:Ro K R)(hk:4<=k)(h0:0<=i)(h1:i<=j)(h2:j<=ws.length)(hw:c8 wd=true)(z:Sep (pX R m l s b at_ ds::aV R s cs ws::O) H)(q:∀ H',Sep (pX R m l s b at_ ds::aV R s cs (bO wd ws i.toNat (j-i).toNat)::O) H'->Q wp H'):ae tab R k 45 [wf m,wl i,wl j,wn wd] H Q E:=by
 delta dY;obtain⟨dx,z1⟩:=wK z;right;refine af bj z .k1 rfl rfl ?_;right;refine aW (vs':=[_,_,_,_]) rfl ?_;refine qm ro nofun z .k1 h0 h1 h2 hw (λH1 z2=>?_);right;exact q H1 z2
end
def vo {b:Addr}{j i2 j2:Int}(hk:1<=k)(z:Sep O H)(e1:H a=some (wv [wl i,wl j]))(e2:H b=some (wv [wl i2,wl j2]))(hd:max i i2<min j j2)(q:∀ t H',Sep (tu t [wl (max i i2),wl (min j j2)]::O) H'->Q (wf t) H'):ae tab R k 59 [wf a,wf b] H Q E:=by
 delta kx;right;refine bP e1 rfl ?_;right;refine bP e2 rfl ?_;right;refine bP e1 rfl ?_;right;refine bP e2 rfl ?_;right;refine aD (λh=>?_) (λh=>absurd hd nofun);right;rename_i t H2 z2;exact q t H2 z2.toT
abbrev x6 (lo hi:Int)(wd:Str)(p:Int×Int)(q:Mm):Mm:=⟨q.m,q.at_,q.rs,q.x,q.cs,bO wd q.ws (max lo p.1-p.1).toNat (min hi p.2-max lo p.1).toNat⟩
abbrev gx (lo hi:Int)(wd:Str)(P:List (Int×Int))(M:List Mm):Nat->List Mm
 |0=>M
 |n+1=>match P[n]?,M[n]? with
  |some p,some q=>(gx lo hi wd P M n).set n (x6 lo hi wd p q)
  |_,_=>gx lo hi wd P M n
section
variable {lo hi:Int}{wd:Str}{P:List (Int×Int)}{M:List Mm}
def lu:∀ {n:Nat}{i:Nat},(gx lo hi wd P M n)[i]? =if i<n then(match P[i]?,M[i]? with|some p,some q=>some (x6 lo hi wd p q)|_,_=>M[i]?) else M[i]?
 |0,i=>by rw[if_neg (Nat.not_lt_zero _)];rfl
 |n+1,i=>by
  have ih:=lu (n:=n) (i:=i);show(match P[n]?,M[n]? with
   |some p,some q=>(gx lo hi wd P M n).set n (x6 lo hi wd p q)
   |_,_=>gx lo hi wd P M n)[i]? =_
  have hlen:(gx lo hi wd P M n).length=M.length:=lvN_len n
  by_cases e:i=n
  .subst e;rw[if_pos (Nat.lt_succ_self _)];rw[if_neg (Nat.lt_irrefl _)]at ih;cases hp:P[i]? with
   |none=>exact ih
   |some p=>
    cases hq:M[i]? with
    |none=>
     rw[hq]at ih;exact ih
    |some q=>
     dsimp only;rw[getElem?_set_self (by rw[hlen];exact(tz.mp hq).1)]
  .have e2:(i<n+1)=(i<n):=propext ⟨λh=>by omega,λh=>by omega⟩;simp only[e2];rw[<-ih];cases P[n]? with
   |none=>rfl
   |some p=>
    cases M[n]? with
    |none=>rfl
    |some q=>exact getElem?_set_ne (λz=>e z.symm)
where
 lvN_len:∀ n:Nat,(gx lo hi wd P M n).length=M.length
 |0=>rfl
 |n+1=>by
  show(match P[n]?,M[n]? with
   |some p,some q=>(gx lo hi wd P M n).set n (x6 lo hi wd p q)
   |_,_=>gx lo hi wd P M n).length=_
  cases P[n]? with
  |none=>exact lvN_len n
  |some p=>
   cases M[n]? with
   |none=>exact lvN_len n
   |some q=>
    dsimp only;rw[length_set];exact lvN_len n
def Ba:∀ {n:Nat},(gx lo hi wd P M n).map dw=M.map dw
 |n=>by
  apply List.ext_getElem?;intro i;rw[io,io,lu]
  split
  .cases P[i]? with
   |none=>rfl
   |some p=>
    cases M[i]? with
    |none=>rfl
    |some q=>rfl
  .rfl
def Ak {j:Int}(ro:Ro K R)(hk:4<=k)(h0:0<=i)(h1:i<=j)(h2:j<=q.ws.length)(hw:c8 wd=true)(z:Sep (cq R q::O) H)
  (h:∀ H',Sep (cq R ⟨q.m,q.at_,q.rs,q.x,q.cs,bO wd q.ws i.toNat (j-i).toNat⟩::O) H'->Q wp H'):ae tab R k 45 [wf q.m,wl i,wl j,wn wd] H Q E:=by
 obtain⟨l,s,b,L,eL,z1⟩:=CJ z;exact xq ro hk h0 h1 h2 hw z1 (λH2 z2=>h H2 (Bh (q:=⟨q.m,q.at_,q.rs,q.x,q.cs,bO wd q.ws i.toNat (j-i).toNat⟩) eL z2))
def yo {c:Addr}{cs:List Int}(ro:Ro K R)(hk:6<=k)(h0:0<=lo)(h1:lo<=hi)(h2:hi<=ws.length)(hw:c8 wd=true)(n1:M.length<=4)(f:BC cs.length P M)(z:Sep (dD R c cs ws P (M.map dw)::(M.map (cq R)++O)) H)
  (h:∀ H',Sep (dD R c cs (bO wd ws lo.toNat (hi-lo).toNat) P (M.map dw)::((gx lo hi wd P M M.length).map (cq R)++O)) H'->Q wp H'):ae tab R k 72 [wf c,wl lo,wl hi,wn wd] H Q E:=by
 delta dM;obtain⟨dx,gr,pl,ml,L,eL,z1⟩:=zD z;have hlL:L.length=M.length:=by
  have:=congrArg List.length eL;rw[ce]at this;rw[this];exact f.1
 clear z;right;refine af bj z1 (by symm) rfl rfl ?_;left;refine qm ro nofun z1 (by ac_rfl) h0 h1 h2 hw (λH2 z2=>?_);clear z1;right;refine Ce (tp1:=false) (tp2:=false) (aU.of (z2.get (by symm))) (aU.of (z2.get (by symm))) ?_;refine pF (xs:=L.map cA) (ys:=M.map dw) (λj U H=>∃ u v w,U=[some (wf c),some (wl lo),some (wl hi),some (wn wd),u,v,w]/\Sep (pt c (ww (R.cad 20) dx [("ground",wf gr),("parts",wf pl),("machines",wf ml)])::pt dx (.own c)::pt pl (wr (L.map cA))::pt ml (wr (M.map dw))::aV R gr cs (bO wd ws lo.toNat (hi-lo).toNat)::(L.map c9++((gx lo hi wd P M j).map (cq R)++O))) H) (by rw[ce,ce,hlL]) ⟨none,none,none,rfl,z2⟩ ?_ ?_ ?_
 .rintro j U H ⟨u,v,w,rfl,zz⟩;exact⟨aU.of (zz.get (by symm)),aU.of (zz.get (by symm))⟩
 .rintro j x y T U H hx hy ⟨u,v,w,rfl,zz⟩ hT;rw[io]at hx hy;obtain⟨pp,ep,rfl⟩:=nw.mp hx;obtain⟨q,eq,rfl⟩:=nw.mp hy;have eP:P[j]? =some (ij pp):=by rw[<-eL,io,ep];rfl
  obtain⟨f0,f1,f2⟩:=f.2 j _ q eP eq;have f0:0<=pp.i:=f0;have f1:pp.j<=(cs.length:Int):=f1;have f2:pp.i+(q.cs.length:Int)=pp.j:=f2;have eq2:(gx lo hi wd P M j)[j]? =some q:=by rw[lu,if_neg (Nat.lt_irrefl _)];exact eq
  have e3:gx lo hi wd P M (j+1)=(gx lo hi wd P M j).set j (x6 lo hi wd (ij pp) q):=by
   show(match P[j]?,M[j]? with
    |some p,some q=>(gx lo hi wd P M j).set j (x6 lo hi wd p q)
    |_,_=>gx lo hi wd P M j)=_
   rw[eP,eq]
  have hs4:=zz.iG (xs:=[cA pp,dw q]) hT;obtain⟨Δ1,p1⟩:=bh (f:=c9) (cr ep);left;refine⟨T,_,rfl,.inl (bc.of hs4.atT),rfl,?_⟩;generalize upd H T _=H4 at hs4⊢;have z5:=hs4.drop;clear hs4 zz;have hlq:=(yE (z5.pull (.j2 (.j2 (.t (ab (aw eq2)))))) ).2.1;right;rename_i t1 H6 z6;clear z5;have ht:H6 pp.p=some (wv [wl pp.i,wl pp.j]):=z6.eX (.j2 (.j2 (.j2 (p1 _))))
  by_cases hd:max lo pp.i<min hi pp.j
  .refine vo nofun z6 z6.at ht hd (λt2 H7 z7=>?_);have ht:H7 pp.p=some (wv [wl pp.i,wl pp.j]):=z7.eX (.j2 (.j2 (.j2 (.t (p1 _)))));right;refine bb ?_;refine aM rfl ?_;right;refine af pq z7 (.j2 (.j2 (.j2 (.t (ab (aw eq2)))))) rfl rfl ?_;right;refine bP ht rfl ?_;right;refine bP ht rfl ?_;right;refine Ak ro nofun nofun nofun (by rw[<-hlq];omega) hw (z7.pull (.j2 (.j2 (.j2 (.t (ab (aw eq2))))))) (λH8 z8=>?_);right;refine⟨_,_,_,rfl,?_⟩;rw[e3];have ea:(min hi pp.j-pp.i-(max lo pp.i-pp.i)).toNat=(min hi pp.j-max lo pp.i).toNat:=by
    congr 1
    omega
   rw[ea]at z8;have z9:Sep (cq R (x6 lo hi wd (ij pp) q)::_) H8:=z8;have z10:=Sep.push (.t (.j2 (.j2 (.j2 (ab (eI eq2))))) ) z9;exact z10.drop.drop
  .refine nq nofun z6 z6.at ht nofun ?_;right;refine bb ?_;refine au rfl ?_;right;refine⟨_,_,_,rfl,?_⟩;have e5:(min hi (ij pp).2-max lo (ij pp).1).toNat=0:=by
    show(min hi pp.j-max lo pp.i).toNat=0
    omega
   have e4:x6 lo hi wd (ij pp) q=q:=by
    unfold x6;rw[e5]
    rfl
   rw[e3,e4,set_same eq2];exact z6.drop
 .rintro U H ⟨u,v,w,rfl,zz⟩;right;rw[ce]at zz;exact h H (Ct eL (by rw[<-hlL];exact zz))
end
abbrev rJ (v:V):av:=⟨λH D=>(∃ t,tyName v H=some t/\t≠"dict")\/∃ a,v=wf a/\D a/\H a=some (.dK []),λH H' D h k g=>by
  rcases h with⟨t,h1,h2⟩|⟨a,h1,h2,h3⟩
  .exact .inl ⟨t,g.ty h1,h2⟩
  .exact .inr ⟨a,h1,h2,(k a h2).trans h3⟩,λH D D' h k=>by
  rcases h with h|⟨a,h1,h2,h3⟩
  .exact .inl h
  .exact .inr ⟨a,h1,k a h2,h3⟩⟩
def DB (s:Sep (rJ v::O) H):∃ t,tyName v H=some t:=by
 obtain⟨D,k,D1,D2,s1,s2,dj,h1,h2⟩:=s;rcases h1 with⟨t,h,_⟩|⟨a,rfl,_,h⟩
 .exact⟨t,h⟩
 .exact⟨"dict",KD h⟩
def cg (h:tyName v H=some t)(n:t≠"dict") (s:Sep O H):Sep (rJ v::O) H:=s.free λ_=>.inl ⟨t,h,n⟩
def BN (s:Sep (pt a (.dK [])::O) H):Sep (rJ (wf a)::O) H:=Sep.imp (A:=pt a (.dK [])) (B:=rJ (wf a)) (λH D h=>.inr ⟨a,rfl,(show D a/\H a=some (.dK []) from h).1,(show D a/\H a=some (.dK []) from h).2⟩) s
def Jq (s:Sep (rJ v::O) H)(q:Q (.bl true) H):d9 K false v v H Q:=by
 obtain⟨D,k,D1,D2,s1,s2,dj,h1,h2⟩:=s;rcases h1 with⟨t,h,n⟩|⟨a,rfl,_,h⟩
 .have fl:aE v=true->d9 K false v v H Q:=λf=>kg f f (by rw[cN f];exact q)
  cases dC h with
  |non=>exact fl rfl
  |bl=>exact fl rfl
  |int=>exact fl rfl
  |str=>exact fl rfl
  |lst e=>exact eq_self (.inl ⟨_,aU.of e⟩) q
  |tup e=>exact eq_self (.inr (.inl ⟨_,bc.of e⟩)) q
  |dct e=>exact absurd rfl n
 .exact eq_self (.inr (.inr h)) q
def Dl:(10:Int) ^ Int.toNat 59=100000000000000000000000000000000000000000000000000000000000:=by decide
abbrev Ka (lo hi:Int)(v:V):Prop:=∀ i,v=wl i->i<lo\/hi<i
def F5 {lo hi:Int}(hk:2<=k)(l0: -1000000000<=lo)(l1:hi<=1000000000)(s:Sep (hand h m::O) H)(hm:m<=1099511000000)(q:∀ v H',Ka lo hi v->Sep (rJ v::hand h (m+3)::O) H'->Q v H'):ae tab R k 98 [wf h,wl lo,wl hi] H Q E:=by
 delta kF;walk_at "gd";rename_i r H1 hr0 hr1 hs1;have fin:∀ {i:Int}{n:Int}{H:Hp},(i<lo\/hi<i)->n<=m+3->Sep (hand h n::O) H->Q (wl i) H:=λ{i n H} hi hn hs=>q _ _ (λj e=>by cases e;exact hi) (cg (t:="int") rfl (by decide) (ax hs hn))
 refine aD (λh0=>?_) (λh0=>?_)
 .walk_at "gd";rename_i r2 H2 hr02 hr12 hs2 p H3 hs3;obtain⟨v,hv,hmem⟩:=dq (xs:=[wl 0,wl r2]) hr0 (by simpa using h0);refine aJ hs3.at hv ?_;rcases(by simpa using hmem:v=wl 0\/v=wl r2) with rfl|rfl
  .walk_at "gd";exact fin nofun nofun hs3.drop
  .walk_at "gd";exact fin nofun nofun hs3.drop
 walk_at "gd";refine aD (λh1=>?_) (λh1=>?_)
 .walk_at "gd";rename_i r2 H2 hr02 hr12 hs2 p H3 hs3;obtain⟨v,hv,hmem⟩:=dq (xs:=[wl 0,wl r2]) (i:=r-2) nofun (by simp;omega);refine aJ hs3.at hv ?_;rcases(by simpa using hmem:v=wl 0\/v=wl r2) with rfl|rfl
  .walk_at "gd";exact fin nofun nofun hs3.drop
  .walk_at "gd";exact fin nofun nofun hs3.drop
 walk_at "gd";refine aG (λh2=>?_) (λh2=>?_)
 .walk_at "gd";rename_i r2 H2 hr02 hr12 hs2;exact fin (by rw[Dl];omega) nofun hs2
 walk_at "gd";refine aG (λh3=>?_) (λh3=>?_)
 .walk_at "gd";rename_i r2 H2 hr02 hr12 hs2;exact fin (by rw[Dl];omega) nofun hs2
 walk_at "gd";rename_i p1 H2 hs2 p2 H3 hs3 p3 H4 hs4 p H5 hs5 i H6 hi0 hi1 hs6;obtain⟨v,hv,hmem⟩:=dq (xs:=[wp,V.bl true,V.bl false,wn "1",wf p1,wf p2,wf p3,wn "here",wn ""]) hi0 (by simpa using hi1);refine aJ (by grind) hv ?_;have e1:tyName (wf p1) H6=some "list":=Ck (by grind);have e2:tyName (wf p2) H6=some "tuple":=G7 (by grind);have hs7:Sep (hand h (m+3)::O) H6:=ax (hs6.sub (by ac_nf)) nofun;simp only[nb,not_mem_nil,or_false]at hmem;rcases hmem with rfl|rfl|rfl|rfl|rfl|rfl|rfl|rfl|rfl
 .exact q _ _ (λi e=>by cases e) (cg (t:="NoneType") rfl (by decide) hs7)
 .exact q _ _ (λi e=>by cases e) (cg (t:="bool") rfl (by decide) hs7)
 .exact q _ _ (λi e=>by cases e) (cg (t:="bool") rfl (by decide) hs7)
 .exact q _ _ (λi e=>by cases e) (cg (t:="str") rfl (by decide) hs7)
 .exact q _ _ (λi e=>by cases e) (cg e1 (by decide) hs7)
 .exact q _ _ (λi e=>by cases e) (cg e2 (by decide) hs7)
 .exact q _ _ (λi e=>by cases e) (BN ((ax (n:=m+3) (hs6.pull (A:=hand h _) (by symm)) nofun).sub (by ac_nf)))
 .exact q _ _ (λi e=>by cases e) (cg (t:="str") rfl (by decide) hs7)
 .exact q _ _ (λi e=>by cases e) (cg (t:="str") rfl (by decide) hs7)
section
variable {c:Addr}{cs:List Int}{ws:List Str}{P:List (Int×Int)}{ms:List V}{v1 v2 v3:V}{t1 t2 t3:String}
def wC (ro:Ro K R)(hk:5<=k)(ht1:tyName v1 H=some t1)(ht2:tyName v2 H=some t2)(ht3:tyName v3 H=some t3)(hno:(ay ws.length v1 v2&&ck v3)=false)(z:Sep (dD R c cs ws P ms::O) H)
  (h:∀ x H',Sep (j9 (R.cad 2) [("low",v1),("behind",v2),("word",v3)] x false::dD R c cs ws P ms::O) H'->E x H'):ae tab R k 72 [wf c,v1,v2,v3] H Q E:=by
 delta dM;obtain⟨dx,gr,pl,ml,L,eL,z1⟩:=zD z;clear z;right;refine af bj z1 (by symm) rfl rfl ?_;left;obtain⟨hok,z2⟩:=fV (z1.pull (A:=aV R gr cs ws) (by symm));refine t6 ro nofun z2 (by rw[ce];exact hok.1) (by rw[<-hok.1];exact hok.2.2.1) ht1 ht2 ht3 (λa b w e1 e2 e3 g1 g2=>?_) (λ_ x H' z3=>?_)
 .subst e3;rw[g1,show ck (wn w)=c8 w from rfl,g2]at hno;cases hno
 .refine h x H' ?_;have z4:=gY hok (z3.pull .k1);have z5:Sep (pt c (ww (R.cad 20) dx [("ground",wf gr),("parts",wf pl),("machines",wf ml)])::pt dx (.own c)::pt pl (wr (L.map cA))::pt ml (wr ms)::aV R gr cs ws::j9 (R.cad 2) [("low",v1),("behind",v2),("word",v3)] x false::(L.map c9++O)) H':=z4.sub (by ac_nf);exact(Ct eL (Sep.mv (P:=[_,_,_,_,_]) (Δ:=[_]) (L:=L.map c9) z5)).pull .k1
def uz (h:tyName v H=some t):∃ b,tab.subB.lookup (t,"bool")=some b:=by
 cases dC h
 all_goals exact⟨_,rfl⟩
def sv (ro:Ro K R)(hk:6<=k)(f2:aE v2=true)(f3:aE v3=true)(ht2:∀ H,tyName v2 H=some t2) (ht3:∀ H,tyName v3 H=some t3) (hno:(ay ws.length v1 v2&&ck v3)=false) (z:Sep (rJ v1::dD R c cs ws P ms::O) H)
  (q:∀ H',Sep (rJ v1::dD R c cs ws P ms::O) H'->Q (.bl true) H'):ae tab R k 116 [wf c,v1,v2,v3] H Q E:=by
 delta e9;obtain⟨t1,ht1⟩:=DB z;obtain⟨b2,hb2⟩:=uz (ht2 H);right;refine af kP z .k1 rfl rfl ?_;left;refine wC ro nofun ht1 (ht2 _) (ht3 _) hno (z.pull .k1) (λx H' z1=>?_);obtain⟨d',z2⟩:=yQ z1;left;refine⟨2,_,_,true,by grind,rfl,rfl,?_⟩;right;obtain⟨t1',ht1'⟩:=DB (z2.pull (A:=rJ v1) (by symm));obtain⟨b1,hb1⟩:=uz ht1';refine cX ht1' hb1 ?_;left;refine cX ht1' hb1 ?_;left;refine ke rfl rfl ?_;refine au (by rw[cN rfl];rfl) ?_;right;refine cX (ht2 _) hb2 ?_;left;refine cX (ht2 _) hb2 ?_;left;refine ke rfl rfl ?_;refine au (by rw[cN rfl];rfl) ?_;right;refine Jq (z2.pull (A:=rJ v1) (by symm)) ?_;refine aM rfl ?_;right;refine kg f2 f2 ?_;refine aM (cN f2) ?_;right;refine kg f3 f3 ?_;rw[cN f3];right;exact q H' (z2.sub (by ac_nf))
end
def Er {sz:Int}(hk:2<=k)(hm:m<=1099510000000)(h0:0<=sz)(h1:sz<=60)(z:Sep (hand h m::O) H)
  (q:∀ SP (S:List (Addr×Rw)) H',1<=S.length->S.length<=24->(∀ r ∈ S.map (·.2),Rw.ok r)->Sep (pt SP (wr (S.map d8))::hand h (m+30)::(S.reverse.map f9++O)) H'->Q (wf SP) H'):ae tab R k 115 [wf h,wl sz] H Q E:=by
 delta jA;walk_at "gd";rename_i D H1 z1 r H2 r0 r1 z2;clear z z1;refine cY (λj U H=>∃ u3,∃ S:List (Addr×Rw),S.length=2*j/\(∀ r ∈ S.map (·.2),Rw.ok r)/\U=[some (wf h),some (wl sz),some (wf D),u3]/\Sep (pt D (wr (S.map d8))::hand h (m+1+4*(j:Int))::(S.reverse.map f9++O)) H) ⟨none,[],rfl,λr hr=>absurd hr (by simp),rfl,(ax z2 (by show m+1<=m+1+4*((0:Nat):Int);omega)).pull .k1⟩ ?_ ?_
 .rintro j U H hj ⟨u3,S,hl,hok,rfl,zz⟩;right;refine⟨D,_,rfl,zz.at,?_⟩;walk_at "gd";rename_i l3 H3 z3 r3 H4 r30 r31 z4;obtain⟨v,e3,b,rfl⟩:=d5 (P:=rG) (xs:=[wn "left",wn "here",wn "there"]) (r:=r3) r30 (by simpa using r31) (LO ⟨.l,rfl⟩ ⟨.h,rfl⟩ ⟨.t,rfl⟩);refine aJ (by grind) e3 ?_;clear zz z3;walk_at "gd";rename_i r4 H5 r40 r41 z5 t H6 z6;clear z4 z5;have z7:Sep (tu t (Rw.tl (.sp (.set b r4)))::_) H6:=z6.toT;refine⟨_,z7.get (by symm),lj z7 (by ac_rfl) (by rw[ce];omega) (λH7 z8=>?_)⟩;have z9:Sep (pt D (wr (S.map d8++[wf t]))::hand h (m+1+4*(j:Int)+1+1)::tu t (Rw.tl (.sp (.set b r4)))::(S.reverse.map f9++O)) H7:=z8.sub (by ac_nf);clear z6 z7 z8;right;refine⟨D,_,rfl,z9.at,?_⟩;walk_at "gd";rename_i p1 Ha za p2 Hb zb p3 Hc zc p4 Hd zd p5 He ze p6 Hf zf l Hg zg r5 Hi r50 r51 zi;clear z9 za zb zc zd ze zf zg;have a1:Hi p1=some (wv [wn "copy"]):=by grind
  have a2:Hi p2=some (wv [wn "fill"]):=by grind
  have a3:Hi p3=some (wv [wn "shift"]):=by grind
  have a4:Hi p4=some (wv [wn "turn"]):=by grind
  have a5:Hi p5=some (wv [wn "write",wn "sign"]):=by grind
  have a6:Hi p6=some (wv [wn "copy"]):=by grind
  obtain⟨v,e5,t2,rw2,rfl,ok2,ht2⟩:=d5 (P:=λv=>∃ t2 rw2,v=wf t2/\Rw.ok rw2/\Hi t2=some (wv (Rw.tl rw2))) (xs:=[wf p1,wf p2,wf p3,wf p4,wf p5,wf p6]) (r:=r5) r50 (by simpa using r51) (LN ⟨_,.lg .copy,rfl,True.intro,a1⟩ ⟨_,.lg .fill,rfl,True.intro,a2⟩ ⟨_,.lg .shift,rfl,True.intro,a3⟩ ⟨_,.lg .turn,rfl,True.intro,a4⟩ ⟨_,.sp (.write .s),rfl,True.intro,a5⟩ ⟨_,.lg .copy,rfl,True.intro,a6⟩);refine aJ (by grind) e5 ?_;have zj:Sep (pt D (wr (S.map d8++[wf t]))::hand h (m+1+4*(j:Int)+1+1+1)::tu t2 rw2.tl::tu t (Rw.tl (.sp (.set b r4)))::(S.reverse.map f9++O)) Hi:=(Sep.D0 ht2 zi).sub (by ac_nf);clear zi;right;refine⟨_,zj.at,lj zj .e (by rw[ci,ce];show _+1<=_;omega) (λHj zk=>?_)⟩;right;refine⟨_,S++[(t,.sp (.set b r4)),(t2,rw2)],by rw[ci];show _+2=_;omega,λr hr=>?_,rfl,?_⟩
  .rw[f8]at hr;rcases mem_append.mp hr with hr|hr
   .exact hok r hr
   .rcases nb.mp hr with rfl|hr
    .exact⟨by omega,by omega⟩
    .rw[mem_singleton.mp hr];exact ok2
  .rw[List.reverse_append,f8,f8];have zl:=(ax (n:=m+1+4*((j+1:Nat):Int)) (zk.pull .k1) nofun).pull .k1;rw[le]at zl;exact zl
 .rintro U H ⟨u3,S,hl,hok,rfl,zz⟩;right;exact q D S H nofun nofun hok ((ax (n:=m+30) (zz.pull .k1) nofun).pull .k1)
def HZ (hk:3<=k)(hm:m<=1099510000000)(n60:n<=60)(z:Sep (hand h m::O) H)
  (q:∀ t v1 v2 v3 t2 t3 H',aE v2=true->aE v3=true->(∀ H,tyName v2 H=some t2)->(∀ H,tyName v3 H=some t3)->(ay n v1 v2&&ck v3)=false->Sep (tu t [v1,v2,v3]::rJ v1::hand h (m+10)::O) H'->Q (wf t) H'):ae tab R k 117 [wf h,wl (n:Int)] H Q E:=by
 delta d4;walk_at "gd";rename_i r H0 r0 r1 z0 p1 H1 z1 p2 H2 z2 p3 H3 z3 p4 H4 z4 p5 H5 z5 l1 H6 z6 p6 H7 z7 p7 H8 z8 p8 H9 z9 p9 Ha za l2 Hb zb l3 Hc zc;clear z z0 z1 z2 z3 z4 z5 z6 z7 z8 z9 za zb;refine F5 nofun nofun nofun (zc.pull (A:=hand h (m+1)) (by symm)) nofun (λv Hd hv zd=>?_);clear zc;walk_at "gd";rename_i pa He ze l4 Hf zf l5 Hg zg s Hh s0 s1 zh;clear zd ze zf zg;have a1:Hh p1=some (wv [wl r,wl ((n:Int)+1),wn "open"]):=by grind
 have a2:Hh p2=some (wv [wl r,wl r,wn "Open"]):=by grind
 have a3:Hh p3=some (wv [wl (r+1),wl r,wn "shut"]):=by grind
 have a4:Hh p4=some (wv [wl (-1),wl r,wn "look"]):=by grind
 have a5:Hh p5=some (wv [wl 0,wp,wn "shut"]):=by grind
 have a6:Hh p6=some (wv [wl r,wl n,wp]):=by grind
 have a7:Hh p7=some (wv [wl 0,wn "1",wn "open"]):=by grind
 have a8:Hh p8=some (wv [wl 0,.bl true,wn "look"]):=by grind
 have a9:Hh p9=some (wv [wl r,wl n,wn "opens"]):=by grind
 have aa:Hh pa=some (wv [v,wl n,wn "open"]):=by grind
 have zi:Sep (rJ v::hand h (m+10)::O) Hh:=(ax (n:=m+10) zh nofun).sub (by ac_nf);have fi:∀ i,Sep (rJ (wl i)::hand h (m+10)::O) Hh:=λi=>cg (t:="int") rfl (by decide) zi.drop
 have wi:∀ {i j:Int},¬ (0<=i/\i<=j/\j<=n)->ay n (wl i) (wl j)=false:=λ{i j} g=>by
  unfold ay;simpa using g
 obtain⟨y,ey,t,v1,v2,v3,t2,t3,rfl,f2,f3,g2,g3,hw,ht,zz⟩:=d5 (P:=λy=>∃ t v1 v2 v3 t2 t3,y=wf t/\aE v2=true/\aE v3=true/\(∀ H,tyName v2 H=some t2)/\(∀ H,tyName v3 H=some t3)/\(ay n v1 v2&&ck v3)=false/\Hh t=some (wv [v1,v2,v3])/\Sep (rJ v1::hand h (m+10)::O) Hh) (xs:=[wf p1,wf p2,wf p3,wf p4,wf p5,wf p6,wf p7,wf p8,wf p9,wf pa]) (r:=s) s0 (by simpa using s1) (λy hy=>by
  simp only[nb,not_mem_nil,or_false]at hy;rcases hy with rfl|rfl|rfl|rfl|rfl|rfl|rfl|rfl|rfl|rfl
  .exact⟨_,_,_,_,"int","str",rfl,rfl,rfl,λ_=>rfl,λ_=>rfl,by rw[wi nofun];rfl,a1,fi _⟩
  .exact⟨_,_,_,_,"int","str",rfl,rfl,rfl,λ_=>rfl,λ_=>rfl,by rw[show ck (wn "Open")=false by decide+kernel,Bool.and_false],a2,fi _⟩
  .exact⟨_,_,_,_,"int","str",rfl,rfl,rfl,λ_=>rfl,λ_=>rfl,by rw[wi nofun];rfl,a3,fi _⟩
  .exact⟨_,_,_,_,"int","str",rfl,rfl,rfl,λ_=>rfl,λ_=>rfl,by rw[wi nofun];rfl,a4,fi _⟩
  .exact⟨_,_,_,_,"NoneType","str",rfl,rfl,rfl,λ_=>rfl,λ_=>rfl,rfl,a5,fi _⟩
  .exact⟨_,_,_,_,"int","NoneType",rfl,rfl,rfl,λ_=>rfl,λ_=>rfl,by rw[show ck wp=false from rfl,Bool.and_false],a6,fi _⟩
  .exact⟨_,_,_,_,"str","str",rfl,rfl,rfl,λ_=>rfl,λ_=>rfl,rfl,a7,fi _⟩
  .exact⟨_,_,_,_,"bool","str",rfl,rfl,rfl,λ_=>rfl,λ_=>rfl,rfl,a8,fi _⟩
  .exact⟨_,_,_,_,"int","str",rfl,rfl,rfl,λ_=>rfl,λ_=>rfl,by rw[show ck (wn "opens")=false by decide+kernel,Bool.and_false],a9,fi _⟩
  .refine⟨_,_,_,_,"int","str",rfl,rfl,rfl,λ_=>rfl,λ_=>rfl,?_,aa,zi⟩;have:ay n v (wl n)=false:=by
    cases v with
    |int i=>exact wi (by have:=hv i rfl;omega)
    |_=>rfl
   rw[this]
   rfl)
 refine aJ (zh.get .k1) ey ?_;right;exact q t v1 v2 v3 t2 t3 Hh f2 f3 g2 g3 hw (Sep.D0 ht zz)
section
variable {h c C ML WL:Addr}{cs:List Int}{gw:List Str}{L:List Mb}{M:List Mm}{W:List Wm}{lo hi:Int}{wd:Str}
def rF.lv {o:Mb}{u:Wm}{W':List Wm}(hK:rF cs L (gx lo hi wd (L.map bR) M n) W')(eo:L[n]? =some o)(eq:M[n]? =some q)(eu:W'[n]? =some u)(ews:wX u=um q):
  rF cs L (gx lo hi wd (L.map bR) M (n+1)) (W'.set n ⟨u.w,u.at_,u.x,u.cs,bO wd u.ws (max lo o.i-o.i).toNat (min hi o.j-max lo o.i).toNat⟩):=by
 have eP:(L.map bR)[n]? =some (o.i,o.j):=by rw[io,eo];rfl
 have eq2:(gx lo hi wd (L.map bR) M n)[n]? =some q:=by rw[lu,if_neg (Nat.lt_irrefl _)];exact eq
 have e3:gx lo hi wd (L.map bR) M (n+1)=(gx lo hi wd (L.map bR) M n).set n (x6 lo hi wd (o.i,o.j) q):=by
  show(match (L.map bR)[n]?,M[n]? with
   |some p,some q=>(gx lo hi wd (L.map bR) M n).set n (x6 lo hi wd p q)
   |_,_=>gx lo hi wd (L.map bR) M n)=_
  rw[eP,eq]
 have e1:u.at_=q.at_:=congrArg (·.1) ews;have e2:u.x=q.x:=congrArg (·.2.1) ews;have e3':u.cs=q.cs:=congrArg (·.2.2.1) ews;have e4:u.ws=q.ws:=congrArg (·.2.2.2) ews;rw[e3];refine hK.set eq2 eu ?_ rfl (hK.ok q (cr eq2)) rfl;show(u.at_,u.x,u.cs,bO wd u.ws (max lo o.i-o.i).toNat (min hi o.j-max lo o.i).toNat)=(q.at_,q.x,q.cs,bO wd q.ws (max lo o.i-o.i).toNat (min hi o.j-max lo o.i).toNat);rw[e1,e2,e3',e4]
def zC (ro:Ro K R)(hk:8<=k)(h0:0<=lo)(h1:lo<=hi)(h2:hi<=gw.length)(hw:c8 wd=true)(g60:gw.length<=60)(c60:cs.length<=60)(n1:L.length<=4)(hlM:∀ m ∈ M,m.cs.length=m.ws.length) (hK:rF cs L M W) (z:Sep (dD R c cs gw (L.map bR) (M.map dw)::(M.map (cq R)++(pt ML (wr (L.map bY))::pt WL (wr (W.map eh))::(W.map eg++(L.map bz++O))))) H)
  (q:∀ W' H',rF cs L (gx lo hi wd (L.map bR) M M.length) W'->W'.map eh=W.map eh->Sep (dD R c cs (bO wd gw lo.toNat (hi-lo).toNat) (L.map bR) (M.map dw)::((gx lo hi wd (L.map bR) M M.length).map (cq R)++(pt ML (wr (L.map bY))::pt WL (wr (W.map eh))::(W'.map eg++(L.map bz++O))))) H'->Q wp H'):ae tab R k 114 [wf c,wf ML,wf WL,wl lo,wl hi,wn wd] H Q E:=by
 have lM:L.length=M.length:=by have:=hK.fit.1;rwa [ce]at this
 delta ic;right;refine af kP z .e rfl rfl ?_;left;refine yo ro nofun h0 h1 h2 hw nofun hK.fit z (λH1 z1=>?_);clear z;have z2:=z1.pull (A:=pt ML (wr (L.map bY))) (.t (ab .e));clear z1;right;rw[ce];refine cY (λj U H=>∃ u7 u8 W',U=[some (wf c),some (wf ML),some (wf WL),some (wl lo),some (wl hi),some (wn wd),u7,u8]/\rF cs L (gx lo hi wd (L.map bR) M j) W'/\W'.map eh=W.map eh/\Sep (pt ML (wr (L.map bY))::dD R c cs (bO wd gw lo.toNat (hi-lo).toNat) (L.map bR) (M.map dw)::((gx lo hi wd (L.map bR) M M.length).map (cq R)++(pt WL (wr (W.map eh))::(W'.map eg++(L.map bz++O))))) H) ⟨none,none,W,rfl,hK,rfl,z2⟩ ?_ ?_
 .rintro j U H hj ⟨u7,u8,W',rfl,hK',ew,zz⟩;obtain⟨o,q',u,eo,eq',eu,ews,ers,okq,f0,f1,f2⟩:=hK'.at (i:=j) hj;rw[lu,if_neg (Nat.lt_irrefl _)]at eq';rw[Int.zero_add];have e1:u.at_=q'.at_:=congrArg (·.1) ews;have e4:u.ws=q'.ws:=congrArg (·.2.2.2) ews;have hcs:=hlM q' (cr eq');have z3:=zz.pull (A:=eg u) (.j2 (ab (.t (aw eu))));have z4:=z3.pull (A:=bz o) (.j2 (.t (ab (.t (ab (aw eo))))));generalize eT:(gx lo hi wd (L.map bR) M M.length).map (cq R)++(pt WL (wr (W.map eh))::((W'.eraseIdx j).map eg++((L.eraseIdx j).map bz++O)))=T at z4;have hWL:∀ {H':Hp}{A1 A2 A3 A4:av},True:=trivial;have i1:=aA (i:=(j:Int)) nofun (by rw[sn];exact uX eo);have i2:nZ (W.map eh) (j:Int)=some (wf u.w):=aA (i:=(j:Int)) nofun (by rw[sn,<-ew];exact ue eu);have pW:ag (pt WL (wr (W.map eh))) T ((gx lo hi wd (L.map bR) M M.length).map (cq R)++((W'.eraseIdx j).map eg++((L.eraseIdx j).map bz++O))):=by
   rw[<-eT];exact ab .e
  obtain⟨d,p,lv,z5⟩:=EZ (z4.pull .k1);have z6:Sep (uu u.w d p lv u.at_ u.x u.cs u.ws (bz o::pt ML (wr (L.map bY))::dD R c cs (bO wd gw lo.toNat (hi-lo).toNat) (L.map bR) (M.map dw)::T)) H:=z5;clear zz z3 z4 z5 hWL;have ht:=(rf (z6.pull (.t .k3))).atT;right;refine aJ (z6.get (by symm)) i1 ?_;right;refine bP ht rfl ?_;right;refine aJ (z6.get (by symm)) i1 ?_;right;refine bP ht rfl ?_;right;refine cY (λi U H=>∃ u8,U=[some (wf c),some (wf ML),some (wf WL),some (wl lo),some (wl hi),some (wn wd),some (wl (j:Int)),u8]/\Sep (uu u.w d p lv u.at_ u.x u.cs (bO wd u.ws (max lo o.i-o.i).toNat i) (bz o::pt ML (wr (L.map bY))::dD R c cs (bO wd gw lo.toNat (hi-lo).toNat) (L.map bR) (M.map dw)::T)) H) ⟨_,rfl,z6⟩ ?_ ?_
  .rintro i U H hi2 ⟨u8,rfl,y⟩;have ht:=(rf (y.pull (.t .k3))).atT;right;refine aJ (y.get (.j2 (.j2 (.j2 (.t pW))))) i2 ?_;right;refine aJ (y.get (by symm)) i1 ?_;right;refine bP ht rfl ?_;have hlen:(bO wd u.ws (max lo o.i-o.i).toNat i).length=u.ws.length:=dh i;have hq:(u.ws.length:Int)=o.j-o.i:=by
    rw[e4,<-hcs]
    omega
   have ei:(max lo o.i+(i:Int)-o.i).toNat=(max lo o.i-o.i).toNat+i:=by omega
   left;refine dA (i:=max lo o.i+(i:Int)-o.i) y .k3 (cp nofun (by rw[ce,hlen];omega)) rfl (λH4 y4=>?_);rw[ei,<-List.map_set]at y4;exact⟨_,rfl,y4⟩
  .rintro U H ⟨u8,rfl,y⟩;refine⟨_,_,W'.set j ⟨u.w,u.at_,u.x,u.cs,bO wd u.ws (max lo o.i-o.i).toNat (min hi o.j-max lo o.i).toNat⟩,rfl,hK'.lv eo eq' eu ews,Eq.trans (fD (f:=eh) eu (by rfl)) ew,?_⟩;have y1:=Bg (q:=⟨u.w,u.at_,u.x,u.cs,bO wd u.ws (max lo o.i-o.i).toNat (min hi o.j-max lo o.i).toNat⟩) y;subst eT;have y2:=Sep.push (.j2 (.t (ab (.t (ab (aw eo)))))) (y1.pull (A:=bz o) .k1);exact Sep.push (.j2 (ab (.t (eI eu)))) y2
 .rintro U H ⟨u7,u8,W',rfl,hK',ew,zz⟩;right;rw[lM]at hK';exact q W' H hK' ew (Sep.push (.t (ab .e)) zz)
end
section
variable {c C ML WL:Addr}{cs:List Int}{L:List Mb}{M:List Mm}{W:List Wm}
def GL (hk:2<=k)(hK:rF cs L M W)(n1:L.length<=4)(c60:cs.length<=60)(z:Sep (pt C (wr (cs.map wl))::pt ML (wr (L.map bY))::pt WL (wr (W.map eh))::(W.map eg++(L.map bz++O))) H)
  (h:∀ FL H',Sep (pt FL (wr ((j0 cs (L.map bR) M M.length).map wl))::pt C (wr (cs.map wl))::pt ML (wr (L.map bY))::pt WL (wr (W.map eh))::(W.map eg++(L.map bz++O))) H'->Q (wf FL) H'):ae tab R k 118 [wf C,wf ML,wf WL] H Q E:=by
 delta lI;right;rename_i FL H1 z1;rw[ce];clear z;have lM:L.length=M.length:=by have:=hK.fit.1;rwa [ce]at this
 refine cY (λj U H=>∃ u5 u6,U=[some (wf C),some (wf ML),some (wf WL),some (wf FL),u5,u6]/\Sep (pt FL (wr ((j0 cs (L.map bR) M j).map wl))::pt C (wr (cs.map wl))::pt ML (wr (L.map bY))::pt WL (wr (W.map eh))::(W.map eg++(L.map bz++O))) H) ⟨none,none,rfl,z1⟩ ?_ ?_
 .rintro j U H hj ⟨u5,u6,rfl,zz⟩;obtain⟨o,q,u,eo,eq,eu,ews,ers,okq,f0,f1,f2⟩:=hK.at (i:=j) nofun;have e3:u.cs=q.cs:=congrArg (·.2.2.1) ews;have ht:H o.t=some (wv [wl o.i,wl o.j,wf o.SP,wf o.d]):=(rf (zz.pull (.j2 (.j2 (ab (aw eo)))))).atT;obtain⟨d,p,lv,z5⟩:=EZ (zz.pull (.j2 (.j2 (aw eu))));generalize eT:(W.eraseIdx j).map eg++(L.map bz++O)=T at z5;have z8:=Sep.D0 ht z5;clear zz z5;rw[Int.zero_add];rw[e3]at z8;right;refine aJ (z8.get (by symm)) (aA nofun (by rw[sn];exact ue eu)) ?_;right;have fl:=kf hK.fit j;have e4:j0 cs (L.map bR) M (j+1)=(j0 cs (L.map bR) M j).take o.i.toNat++q.cs++(j0 cs (L.map bR) M j).drop o.j.toNat:=by
   show(match (L.map bR)[j]?,M[j]? with
    |some p,some q=>(j0 cs (L.map bR) M j).take p.1.toNat++q.cs++(j0 cs (L.map bR) M j).drop p.2.toNat
    |_,_=>j0 cs (L.map bR) M j)=_
   rw[io,eo,eq]
   rfl
  generalize j0 cs (L.map bR) M j=F at fl e4 z8;rw[sn,ce];refine cY (λi U H=>∃ u6,U=[some (wf C),some (wf ML),some (wf WL),some (wf FL),some (wl (j:Int)),u6]/\Sep (tu o.t [wl o.i,wl o.j,wf o.SP,wf o.d]::uu u.w d p lv u.at_ u.x q.cs u.ws (pt FL (wr ((F.take o.i.toNat++q.cs.take i++F.drop (o.i.toNat+i)).map wl))::pt C (wr (cs.map wl))::pt ML (wr (L.map bY))::pt WL (wr (W.map eh))::T)) H) ⟨_,rfl,?_⟩ ?_ ?_
  .rw[List.take_zero,append_nil,Nat.add_zero,take_append_drop];exact z8
  .rintro i U H hi ⟨u6,rfl,zz⟩;have ei:q.cs[i]? =some q.cs[i]:=li hi;generalize q.cs[i]=v at ei;have lF:(F.take o.i.toNat++q.cs.take i++F.drop (o.i.toNat+i)).length=cs.length:=by
    rw[ci,ci,db,db,jp]
    omega
   right;refine aJ (zz.get (by symm)) (aA nofun (by rw[sn];exact ue eu)) ?_;right;refine aJ (zz.get (by symm)) (L8 (by rw[io,ei];rfl)) ?_;right;refine aJ (zz.get (by symm)) (aA nofun (by rw[sn];exact uX eo)) ?_;right;refine dA (j:=o.i.toNat+i) (ys:=(F.take o.i.toNat++q.cs.take (i+1)++F.drop (o.i.toNat+(i+1))).map wl) zz (by ac_rfl) (by rw[cp nofun (by rw[ce,lF];omega)];congr 1;omega) (by rw[<-AI nofun ei,List.map_set]) (λH5 z9=>?_);right;exact⟨_,rfl,z9⟩
  .rintro U H ⟨u6,rfl,zz⟩;right;refine⟨_,_,rfl,?_⟩;rw[e4,show o.j.toNat=o.i.toNat+q.cs.length by omega];rw[take_of_length_le (re q.cs.length),<-e3]at zz;rw[<-e3];have z10:=Bg (q:=u) zz.drop;subst eT;exact Sep.push (.j2 (.j2 (aw eu))) z10
 .rintro U H ⟨u5,u6,rfl,zz⟩;right;rw[sn,lM]at zz;exact h FL H zz
end
section
variable {b:Mm}{u:Wm}
def FR (e:wX u=um b)(er:b.rs=rs):wX (Li rs u)=um (Jc b)/\(mS rs u.at_ u.x u.cs u.ws).w=(mS b.rs b.at_ b.x b.cs b.ws).w:=by
 have e1:u.at_=b.at_:=congrArg (·.1) e;have e2:u.x=b.x:=congrArg (·.2.1) e;have e3:u.cs=b.cs:=congrArg (·.2.2.1) e;have e4:u.ws=b.ws:=congrArg (·.2.2.2) e;subst er;refine⟨?_,by rw[e1,e2,e3,e4]⟩;show((mS b.rs u.at_ u.x u.cs u.ws).at_,(mS b.rs u.at_ u.x u.cs u.ws).x,(mS b.rs u.at_ u.x u.cs u.ws).cs,u.ws)=((mS b.rs b.at_ b.x b.cs b.ws).at_,(mS b.rs b.at_ b.x b.cs b.ws).x,(mS b.rs b.at_ b.x b.cs b.ws).cs,b.ws);rw[e1,e2,e3,e4]
end
abbrev bQ (R:Rt)(h c C ML WL:Addr)(cs:List Int)(gw:List Str)(Δ:List av)(L:List Mb)(N:Int)(H:Hp):Prop:=∃ (M:List Mm) (W:List Wm),rF cs L M W/\Sep (pt C (wr (cs.map wl))::pt ML (wr (L.map bY))::pt WL (wr (W.map eh))::dD R c cs gw (L.map bR) (M.map dw)::hand h N::(M.map (cq R)++(W.map eg++(L.map bz++Δ)))) H
noncomputable abbrev Iv (R:Rt)(h c C ML WL:Addr)(cs:List Int)(gw:List Str)(L:List Mb)(ms ws:List V)(o:Mb)(b:Mm)(u:Wm)(N:Int)(T:List av):List av:=cq R b::dD R c cs gw (L.map bR) ms::eg u::bz o::pt C (wr (cs.map wl))::pt ML (wr (L.map bY))::pt WL (wr ws)::hand h N::T
section
variable {h c C ML WL:Addr}{cs:List Int}{gw:List Str}{Δ:List av}{L:List Mb}{N:Int}{D:Ends}{E:St->XK}{u0 u4 u5 u6 u9 u10:Option V}
def Bz {i:Nat}(hi:i<L.length)(z:bQ R h c C ML WL cs gw Δ L N H):∃ o b u ms ws T,L[i]? =some o/\ms[i]? =some (wf b.m)/\ws[i]? =some (wf u.w)/\By b/\wX u=um b/\b.rs=o.S.map (·.2)/\(u.at_=b.at_/\u.x=b.x/\u.cs=b.cs/\u.ws=b.ws)/\Sep (Iv R h c C ML WL cs gw L ms ws o b u N T) H/\∀ b' u' N' H',b'.m=b.m->u'.w=u.w->wX u'=um b'->b'.rs=b.rs->By b'->b'.cs.length=b.cs.length->Sep (Iv R h c C ML WL cs gw L ms ws o b' u' N' T) H'->bQ R h c C ML WL cs gw Δ L N' H':=by
 obtain⟨M,W,hK,z⟩:=z;obtain⟨o,b,u,eo,eb,eu,ews,ers,okb,f0,f1,f2⟩:=hK.at (i:=i) hi;have z2:=z.pull (.j2 (.j2 (.t (aw eb))));have z3:=z2.pull (.j2 (.j2 (.j2 (ab (aw eu)))));have z4:=z3.pull (.j2 (.j2 (.j2 (.t (ab (ab (aw eo)))))));generalize eT:(M.eraseIdx i).map (cq R)++((W.eraseIdx i).map eg++((L.eraseIdx i).map bz++Δ))=T at z4;refine⟨o,b,u,_,_,T,eo,Hq eb,ue eu,okb,ews,ers,⟨congrArg (·.1) ews,congrArg (·.2.1) ews,congrArg (·.2.2.1) ews,congrArg (·.2.2.2) ews⟩,z4.sub (by ac_nf),λb' u' N' H' e1 e2 e3 e4 e5 e6 y=>?_⟩;refine⟨M.set i b',W.set i u',hK.set eb eu e3 e4 e5 e6,?_⟩;rw[fD (f:=dw) eb (y:=b') (by show wf b'.m=wf b.m;rw[e1]),fD (f:=eh) eu (y:=u') (by show wf u'.w=wf u.w;rw[e2])];have zh:Sep (bz o::eg u'::cq R b'::pt C (wr (cs.map wl))::pt ML (wr (L.map bY))::pt WL (wr (W.map eh))::dD R c cs gw (L.map bR) (M.map dw)::hand h N'::T) H':=y.sub (by ac_nf);subst eT;have zi:=Sep.push (.j2 (.j2 (.j2 (.t (ab (ab (aw eo))))))) zh;have zj:=Sep.push (.j2 (.j2 (.j2 (ab (eI eu))))) zi;exact Sep.push (.j2 (.j2 (.t (eI eb)))) zj
end
section
variable {h c C ML WL A B:Addr}{cs F:List Int}{gw:List Str}{Δ:List av}{L:List Mb}{N:Int}
abbrev yY (R:Rt)(h c C ML WL:Addr)(cs:List Int)(gw:List Str)(Δ:List av)(L:List Mb)(N:Int)(F:List Int)(H:Hp):Prop:=∃ (M:List Mm) (W:List Wm),rF cs L M W/\j0 cs (L.map bR) M M.length=F/\Sep (pt C (wr (cs.map wl))::pt ML (wr (L.map bY))::pt WL (wr (W.map eh))::dD R c cs gw (L.map bR) (M.map dw)::hand h N::(M.map (cq R)++(W.map eg++(L.map bz++Δ)))) H
def Hy (ro:Ro K R)(hk:4<=k)(n1:L.length<=4)(c60:cs.length<=60)(z:bQ R h c C ML WL cs gw Δ L N H)
  (q:∀ A F H',F.length=cs.length->yY R h c C ML WL cs gw (pt A (wr (F.map wl))::Δ) L N F H'->Q (wf A) H'):ae tab R k 71 [wf c] H Q E:=by
 obtain⟨M,W,hK,z⟩:=z;have lM:L.length=M.length:=by have:=hK.fit.1;rwa [ce]at this
 have z1:Sep (dD R c cs gw (L.map bR) (M.map dw)::(M.map (cq R)++(pt C (wr (cs.map wl))::pt ML (wr (L.map bY))::pt WL (wr (W.map eh))::hand h N::(W.map eg++(L.map bz++Δ))))) H:=Sep.mv (P:=[_]) (Δ:=[_,_,_,_]) (L:=M.map (cq R)) (z.pull .k3);refine zE ro hk c60 nofun hK.fit z1 (λA H2 z2=>q A _ H2 (kf hK.fit _) ⟨M,W,hK,rfl,?_⟩);have z3:Sep (pt A (wr ((j0 cs (L.map bR) M M.length).map wl))::dD R c cs gw (L.map bR) (M.map dw)::pt C (wr (cs.map wl))::pt ML (wr (L.map bY))::pt WL (wr (W.map eh))::hand h N::(M.map (cq R)++(W.map eg++(L.map bz++Δ)))) H2:=Sep.mv (P:=[_,_]) (Δ:=M.map (cq R)) (L:=[_,_,_,_]) z2;have z4:Sep (pt A (wr ((j0 cs (L.map bR) M M.length).map wl))::pt C (wr (cs.map wl))::pt ML (wr (L.map bY))::pt WL (wr (W.map eh))::dD R c cs gw (L.map bR) (M.map dw)::hand h N::(M.map (cq R)++(W.map eg++(L.map bz++Δ)))) H2:=z3.sub (by ac_nf);exact Sep.push (.j2 (.j2 (.t (ab (ab (ab .e)))))) z4
def HD (hk:2<=k)(n1:L.length<=4)(c60:cs.length<=60)(z:yY R h c C ML WL cs gw Δ L N F H)
  (q:∀ B H',yY R h c C ML WL cs gw (pt B (wr (F.map wl))::Δ) L N F H'->Q (wf B) H'):ae tab R k 118 [wf C,wf ML,wf WL] H Q E:=by
 obtain⟨M,W,hK,eF,z⟩:=z;have e:∀ O:List av,(W.map eg++L.map bz)++O=W.map eg++(L.map bz++O):=λO=>le ..
 rw[<-e]at z;have z1:=Sep.mv (P:=[_,_,_]) (Δ:=dD R c cs gw (L.map bR) (M.map dw)::hand h N::M.map (cq R)) (L:=W.map eg++L.map bz) (O:=Δ) z;rw[e]at z1;refine GL hk hK n1 c60 z1 (λB H2 z2=>q B H2 ⟨M,W,hK,eF,?_⟩);rw[eF,<-e]at z2;have z3:Sep (pt B (wr (F.map wl))::pt C (wr (cs.map wl))::pt ML (wr (L.map bY))::pt WL (wr (W.map eh))::dD R c cs gw (L.map bR) (M.map dw)::hand h N::(M.map (cq R)++((W.map eg++L.map bz)++Δ))) H2:=Sep.mv (P:=[_,_,_,_]) (Δ:=W.map eg++L.map bz) (L:=dD R c cs gw (L.map bR) (M.map dw)::hand h N::M.map (cq R)) (O:=Δ) z2;rw[e]at z3;exact Sep.push (.j2 (.j2 (.t (ab (ab (ab .e)))))) z3
def yY.o (z:yY R h c C ML WL cs gw (pt B (wr (F.map wl))::pt A (wr (F.map wl))::Δ) L N F H):∃ T,Sep (pt B (wr (F.map wl))::pt A (wr (F.map wl))::T) H/\∀ H',Sep T H'->bQ R h c C ML WL cs gw Δ L N H':=by
 obtain⟨M,W,hK,eF,z⟩:=z;refine⟨_,(z.pull (A:=pt A (wr (F.map wl))) (.j2 (.j2 (.t (ab (ab (ab .k1))))))).pull (A:=pt B (wr (F.map wl))) (.j2 (.j2 (.j2 (ab (ab (ab .e)))))),λH' y=>⟨M,W,hK,y⟩⟩
variable {D:Ends}{E:St->XK}{u0 u4 u5 u8 u9 u10 u11 u12:Option V}
def Iz (ro:Ro K R)(hk:14<=k)(n1:L.length<=4)(c0:1<=cs.length)(c60:cs.length<=60)(z:bQ R h c C ML WL cs gw Δ L N H)
  (q:∀ u12 H',bQ R h c C ML WL cs gw Δ L N H'->D.nx [u0,some (wf h),some (wf C),some (wf ML),u4,u5,some (wf c),some (wf WL),u8,u9,u10,u11,u12] H'):
  wB (hU 4 (CG (hU 6 kA.body))) ⟨tab,R,ae tab R (k-1),true⟩ D E [u0,some (wf h),some (wf C),some (wf ML),u4,u5,some (wf c),some (wf WL),u8,u9,u10,u11,u12] H:=by
 have z0:=z;obtain⟨_,_,_,z0⟩:=z0;right;refine af kP z0 .k3 rfl rfl ?_;left;clear z0;refine Hy ro nofun n1 c60 z (λA F H1 lF z1=>?_);right;refine HD nofun n1 c60 z1 (λB H2 z2=>?_);obtain⟨T,z3,cl⟩:=z2.o;left;refine FZ (uj (z3.get .k1) z3.at) (by decide) (λe=>z3.ne e.symm) ?_;refine au rfl ?_;right;refine dA (i:=0) z3 .k1 (cp nofun (by rw[ce];omega)) rfl (λH4 z4=>?_);right;refine⟨A,_,rfl,z4.get .k1,?_⟩;right;refine⟨_,z4.get .k1,lj z4 .k1 (by rw[length_set,ce];omega) (λH5 z5=>?_)⟩;right;exact q _ H5 (cl H5 z5.drop.drop)
def xI {i:Nat}(ro:Ro K R)(hk:14<=k)(n1:L.length<=4)(c0:1<=cs.length)(c60:cs.length<=60)(hi:i<L.length)(z:bQ R h c C ML WL cs gw Δ L N H)
  (q:∀ u12 H',bQ R h c C ML WL cs gw Δ L N H'->D.nx [u0,some (wf h),some (wf C),some (wf ML),u4,u5,some (wf c),some (wf WL),u8,some (wl (i:Int)),u10,u11,u12] H'):
  wB (hU 3 (CG (hU 6 kA.body))) ⟨tab,R,ae tab R (k-1),true⟩ D E [u0,some (wf h),some (wf C),some (wf ML),u4,u5,some (wf c),some (wf WL),u8,some (wl (i:Int)),u10,u11,u12] H:=by
 obtain⟨o,b,u,ms,ws,T,eo,em,ew,okb,ews,ers,⟨e1,e2,e3,e4⟩,zb,cl⟩:=Bz hi z;obtain⟨hx,hl,l60⟩:=yE zb;have i1:=aA (i:=(i:Int)) nofun (by rw[sn];exact uX eo);have i2:=aA (i:=(i:Int)) nofun (by rw[sn];exact ew);clear z;right;refine af kP zb .k1 rfl rfl ?_;left;refine Cf ro nofun em okb zb (λH1 z1=>?_);have ht:=(rf (z1.pull .k3)).atT;right;refine aJ (z1.get (by symm)) i1 ?_;right;refine bP ht rfl ?_;right;refine aJ (z1.get (by symm)) i2 ?_;right;refine yw nofun (by rw[e1];exact okb.1) (by rw[e1,<-ers];exact okb.2.1) (by rw[e2];exact hx) (by rw[e3,e4];exact hl) (by rw[<-ers];exact okb.2.2) (z1.sub (.cons .k2 (.cons .k2 .refl))) (λH2 z2=>?_);obtain⟨s1,s2⟩:=FR ews ers;rw[s2];rw[<-ers]at z2 s1;refine ke rfl rfl ?_;refine au (by rw[cN rfl];rfl) ?_;exact Iz (k:=k) ro hk n1 c0 c60 (cl (Jc b) (Li b.rs u) N H2 rfl rfl s1 rfl (GO okb) (AO hx).2 (z2.sub (by ac_nf))) q
def Dw {i:Nat}(ro:Ro K R)(hk:14<=k)(hN:N<=1099400000000)(n1:L.length<=4)(c0:1<=cs.length)(c60:cs.length<=60)(g60:gw.length=cs.length)(hi:i<L.length)(z:bQ R h c C ML WL cs gw Δ L N H)
  (q:∀ u4 u5 u11 u12 H',bQ R h c C ML WL cs gw Δ L (N+11) H'->D.nx [u0,some (wf h),some (wf C),some (wf ML),u4,u5,some (wf c),some (wf WL),u8,some (wl (i:Int)),u10,u11,u12] H'):
  wB (hU 2 (CG (hU 6 kA.body))) ⟨tab,R,ae tab R (k-1),true⟩ D E [u0,some (wf h),some (wf C),some (wf ML),u4,u5,some (wf c),some (wf WL),u8,some (wl (i:Int)),u10,u11,u12] H:=by
 obtain⟨M,W,hK,z⟩:=z;walk_at "gd";rename_i r H1 r0 r1 z1;clear z;refine aG (λg=>?_) (λg=>?_)
 .right;rw[ce];refine HZ (n:=cs.length) nofun nofun c60 z1 (λt v1 v2 v3 t2 t3 H2 f2 f3 g2 g3 hw z2=>?_);clear z1;left;refine⟨t,_,rfl,.inl (bc.of z2.atT),rfl,?_⟩;right;refine sv ro nofun f2 f3 g2 g3 (by rw[g60];exact hw) (z2.sub (Γ':=rJ v1::dD R c cs gw (L.map bR) (M.map dw)::hand h (N+1+10)::pt C (wr (cs.map wl))::pt ML (wr (L.map bY))::pt WL (wr (W.map eh))::(M.map (cq R)++(W.map eg++(L.map bz++Δ)))) (by ac_nf)) (λH3 z3=>?_);have zi:bQ R h c C ML WL cs gw Δ L (N+11) H3:=⟨M,W,hK,(ax (n:=N+11) (z3.pull .k2) nofun).sub (by ac_nf)⟩;refine au rfl ?_;exact xI (k:=k) ro hk n1 c0 c60 hi zi (λ_ H' y=>q _ _ _ _ H' y)
 .have zi:bQ R h c C ML WL cs gw Δ L (N+11) H1:=⟨M,W,hK,(ax (n:=N+11) z1 nofun).sub (by ac_nf)⟩;exact xI (k:=k) ro hk n1 c0 c60 hi zi (λ_ H' y=>q _ _ _ _ H' y)
def GJ (ro:Ro K R)(hk:14<=k)(hN:N<=1099300000000)(n0:1<=L.length)(n1:L.length<=4)(c0:1<=cs.length)(c60:cs.length<=60)(g60:gw.length=cs.length)(z:bQ R h c C ML WL cs gw Δ L N H)
  (q:∀ gw' u4 u5 u9 u10 u11 u12 H',gw'.length=cs.length->bQ R h c C ML WL cs gw' Δ L (N+30) H'->D.nx [u0,some (wf h),some (wf C),some (wf ML),u4,u5,some (wf c),some (wf WL),u8,u9,u10,u11,u12] H'):
  wB (CG (hU 6 kA.body)) ⟨tab,R,ae tab R (k-1),true⟩ D E [u0,some (wf h),some (wf C),some (wf ML),u4,u5,some (wf c),some (wf WL),u8,u9,u10,u11,u12] H:=by
 have z0:=z;obtain⟨M,W,hK,z0⟩:=z0;right;rw[ce];refine tQ nofun (z0.pull (A:=hand h N) (.t .k3)) nofun nofun nofun (λi H1 i0 i1 z1=>?_);obtain⟨i,rfl⟩:=sw i0;walk_at "gd";rename_i r H2 r0 r1 z2;clear z z0 z1;have en:N+19+11=N+30:=by omega
 refine aG (λg=>?_) (λg=>?_)
 .have okM:∀ m ∈ M,m.cs.length=m.ws.length:=λm hm=>by
   obtain⟨n,hn⟩:=getElem?_of_mem hm;exact(yE (z2.pull (.j2 (.j2 (.t (aw hn)))))).2.1
  obtain⟨o,b,u,eo,eb,eu,ews,ers,okb,f0,f1,f2⟩:=hK.at (i:=i) nofun;have i1':=aA (i:=(i:Int)) nofun (by rw[sn];exact uX eo);have ht:H2 o.t=some (wv [wl o.i,wl o.j,wf o.SP,wf o.d]):=(rf (z2.pull (.j2 (.j2 (.t (ab (ab (aw eo)))))))).atT;have z3:=Sep.D0 ht z2;clear z2;right;refine aJ (z3.get (by symm)) i1' ?_;right;refine aJ (z3.get (by symm)) i1' ?_;right;refine aJ (z3.get (by symm)) i1' ?_;walk_at "gd";rename_i r3 H3 r30 r31 z4 p5 H5 z5 r6 H6 r60 r61 z6;rw[ce];generalize hlo:max 0 (min ((cs.length:Int)-1) (o.i-2+r3))=lo;have l0:0<=lo/\lo<cs.length:=by omega
  clear z3 z4 z5;obtain⟨v,e2,B,rfl,B0,B1⟩:=d5 (xs:=[wl 6,wl (o.j-o.i+3)]) (P:=inR 1 100) (r:=r6) r60 (by simpa using r61) (JI (.mk (by decide) (by decide)) (.mk nofun nofun));refine aJ (by grind) e2 ?_;walk_at "gd";rename_i r7 H7 r70 r71 z7 l8 H8 z8 r9 H9 r90 r91 z9;generalize hhi:min (cs.length:Int) (lo+1+r7)=hi;have h0:lo<=hi/\hi<=cs.length:=by omega
  obtain⟨v,ev,wd,rfl,hw⟩:=d5 (xs:=[wn "look",wn "shut",wn "open",wn "open"]) (P:=λv=>∃ w,v=wn w/\c8 w=true) (r:=r9) r90 (by simpa using r91) (LQ ⟨_,rfl,by decide+kernel⟩ ⟨_,rfl,by decide+kernel⟩ ⟨_,rfl,by decide+kernel⟩ ⟨_,rfl,by decide+kernel⟩);refine aJ (by grind) ev ?_;have y0:Sep (hand h (N+19)::pt C (wr (cs.map wl))::pt ML (wr (L.map bY))::pt WL (wr (W.map eh))::dD R c cs gw (L.map bR) (M.map dw)::(M.map (cq R)++(W.map eg++(L.map bz++Δ)))) H9:=(ax (n:=N+19) z9 nofun).sub (by ac_nf);clear z6 z7 z8 z9;have y1:=Sep.push (.j2 (.j2 (ab (ab (ab .e))))) y0;have y2:=Sep.push (.j2 (.t (ab (ab (ab .e))))) y1;have y3:=Sep.push (.j2 (ab .e)) (y2.pull (A:=pt WL (wr (W.map eh))) .k1);have y4:=Sep.push (.t (ab .e)) y3;clear y0 y1 y2 y3;right;refine zC ro nofun l0.1 h0.1 (by rw[g60];exact h0.2) hw nofun c60 n1 okM hK y4 (λW' H6 hK' ew y5=>?_);have x1:=y5.pull (A:=hand h (N+19)) (.t (ab (.j2 (ab (ab .k1)))));have x2:=x1.pull (A:=dD R c cs (bO wd gw lo.toNat (hi-lo).toNat) (L.map bR) (M.map dw)) .k1;have x3:=x2.pull (A:=pt WL (wr (W.map eh))) (.j2 (ab .k1));have x4:=x3.pull (A:=pt ML (wr (L.map bY))) (.j2 (.t (ab .e)));have x5:=x4.pull (A:=pt C (wr (cs.map wl))) (.j2 (.j2 (ab (ab (ab .e)))));have zi:bQ R h c C ML WL cs (bO wd gw lo.toNat (hi-lo).toNat) Δ L (N+19) H6:=⟨_,W',hK',by rw[Ba,ew];exact x5⟩;clear y4 y5 x1 x2 x3 x4 x5;left;exact Dw (k:=k) ro hk nofun n1 c0 c60 (by rw[dh];exact g60) nofun zi (λ_ _ _ _ H' y=>q _ _ _ _ _ _ _ H' (by rw[dh];exact g60) (en▸y))
 .have zi:bQ R h c C ML WL cs gw Δ L (N+19) H2:=⟨M,W,hK,(ax (n:=N+19) z2 nofun).sub (by ac_nf)⟩;exact Dw (k:=k) ro hk nofun n1 c0 c60 g60 nofun zi (λ_ _ _ _ H' y=>q gw _ _ _ _ _ _ H' g60 (en▸y))
end
def rF.start {cs:List Int}{B:List Mm}(ok:∀ q ∈ L,JE cs.length q) (eB:B.map Cc=L.map (λq=>D9 cs (yU q))) (eW:W.map wX=L.map (λq=>um (D9 cs (yU q)))):rF cs L B W:=by
 have f1:∀ l:List Mm,l.map um=(l.map Cc).map um:=λl=>by rw[List.map_map];rfl
 have f2:∀ l:List Mm,l.map (·.rs)=(l.map Cc).map (·.rs):=λl=>by rw[List.map_map];rfl
 have hl:B.length=L.length:=by
  have:=congrArg List.length eB
  rwa [ce,ce]at this
 have be:∀ {n:Nat}{q:Mm},B[n]? =some q->∃ o,L[n]? =some o/\D9 cs (yU o)=Cc q:=λ{n q} h=>by
  have h2:(B.map Cc)[n]? =(L.map (λq=>D9 cs (yU q)))[n]? :=by rw[eB]
  rw[io,io,h]at h2;obtain⟨o,g1,g2⟩:=nw.mp h2.symm;exact⟨o,g1,g2⟩
 refine⟨?_,?_,λq hq=>?_,⟨by rw[ce];exact hl.symm,λi p q e1 e2=>?_⟩⟩
 .rw[eW,f1,eB,List.map_map]
  rfl
 .rw[f2,eB,List.map_map]
  rfl
 .obtain⟨n,hn⟩:=getElem?_of_mem hq;obtain⟨o,eo,e⟩:=be hn;obtain⟨_,_,oR,_⟩:=ok o (cr eo);have a1:(0:Int)=q.at_:=congrArg Mm.at_ e;have a2:o.S.map (·.2)=q.rs:=congrArg Mm.rs e;unfold By;rw[<-a1,<-a2];exact⟨Int.le_refl _,by omega,oR⟩
 .obtain⟨o,eo,e⟩:=be e2;rw[io,eo]at e1;cases e1;obtain⟨⟨o0,o1,o2⟩,_⟩:=ok o (cr eo);have a1:(cs.drop o.i.toNat).take (o.j.toNat-o.i.toNat)=q.cs:=congrArg Mm.cs e;rw[<-a1,db,jp];show 0<=o.i/\o.j<=(cs.length:Int)/\o.i+_=o.j
  omega
noncomputable abbrev sj (cs:List Int):List Str:=sK cs.length "open"
def Fz (ro:Ro K R)(hk:15<=k):∀ vs H Q E,jg K 63 vs H Q E->ae tab R k 119 vs H Q E:=by
 rintro vs H Q E ⟨a,is,rfl,hS,h63,hQ⟩;delta kA;right;rw[<-ro.hK]at hS;refine Ep nofun Sep.nil hS h63 (λh H1 hs1=>?_);right;refine w8 (O:=[]) (m:=10) nofun (ax hs1 nofun) nofun (by decide) (by decide) (λC cs H5 c0 c1 hc z5=>?_);clear hs1;right;rename_i D H6 z6;rw[ce];refine zQ (m:=400) (O:=pt D (wr [])::pt C (wr (cs.map wl))::[]) nofun (ax (z6.sub (Γ':=hand h (10+300)::pt D (wr [])::pt C (wr (cs.map wl))::[]) (by ac_nf)) nofun) nofun nofun nofun (λPL P H2 p0 p1 ok z2=>?_);clear z5 z6;have z3:Sep (pt D (wr [])::hand h 430::pt PL (wr (P.map cA))::pt C (wr (cs.map wl))::(P.map c9++[])) H2:=(Sep.mv (P:=[_,_]) (Δ:=P.map c9) (L:=[_,_]) (O:=[]) z2).sub (O:=pt PL (wr (P.map cA))::hand h 430::pt D (wr [])::pt C (wr (cs.map wl))::(P.map c9++[])) (by ac_nf);clear z2;right;refine dH (xs:=P.map cA) (λj U H=>∃ u v,∃ L:List Mb,U=[some (wf a),some (wf h),some (wf C),some (wf D),u,v,none,none,none,none,none,none,none]/\L.map bR=(P.take j).map ij/\(∀ q ∈ L,JE cs.length q)/\Sep (pt D (wr (L.map bY))::hand h (430+100*(j:Int))::pt PL (wr (P.map cA))::pt C (wr (cs.map wl))::(L.map bz++(P.map c9++[]))) H) ?_ ?_ ?_ ?_
 .exact⟨none,none,[],rfl,rfl,λq hq=>absurd hq (by simp),(ax (z3.pull .k1) nofun).pull .k1⟩
 .rintro j U H ⟨u,v,L,rfl,e,hK,zz⟩;exact aU.of (zz.get .k2)
 .rintro j x U H hx ⟨u,v,L,rfl,e,hK,zz⟩;rw[io]at hx;obtain⟨pp,ep,rfl⟩:=nw.mp hx;have hj:=(tz.mp ep).1;have hlL:L.length=j:=by
   have:=congrArg List.length e;rw[ce,ce,db]at this
   omega
  obtain⟨o0,o1,o2⟩:=ok.1 pp (cr ep);obtain⟨Δ1,pp1⟩:=bh (f:=c9) (cr ep);left;refine⟨pp.p,_,rfl,.inl (bc.of (zz.eX (.j2 (.j2 (ab (pp1 _)))))),rfl,?_⟩;right;refine⟨D,_,rfl,zz.at,?_⟩;right;refine Er (sz:=pp.j-pp.i) nofun nofun nofun nofun (zz.pull .k1) (λSP S H7 s0 s1 okS z7=>?_);clear zz;right;refine CU (M:=pp.j-pp.i) nofun (z7.pull .k1) nofun nofun nofun (λd x H8 hx z8=>?_);right;rename_i t H9 z9;clear z7 z8;have z9':Sep (pt t (wv [wl pp.i,wl pp.j,wf SP,wf d])::ao d x::hand h (430+100*(j:Int)+30+30)::pt SP (wr (S.map d8))::pt D (wr (L.map bY))::pt PL (wr (P.map cA))::pt C (wr (cs.map wl))::(S.reverse.map f9++(L.map bz++(P.map c9++[])))) H9:=Sep.mv (P:=[_,_,_,_]) (Δ:=S.reverse.map f9) (L:=[_,_,_]) z9;refine⟨_,z9'.get (by symm),lj z9' (by ac_rfl) (by rw[ce];omega) (λH10 z10=>?_)⟩;right;refine⟨_,_,L++[⟨t,SP,d,pp.i,pp.j,S,x⟩],rfl,?_,λq hq=>?_,?_⟩
  .rw[gC ep,f8,f8,e]
   rfl
  .rcases mem_append.mp hq with hq|hq
   .exact hK q hq
   .rw[mem_singleton.mp hq];exact⟨⟨o0,o1,o2⟩,⟨s0,s1⟩,okS,hx⟩
  .have z11:Sep (tu t [wl pp.i,wl pp.j,wf SP,wf d]::pt SP (wr (S.map d8))::ao d x::pt D (wr (L.map bY++[wf t]))::hand h (430+100*((j+1:Nat):Int))::pt PL (wr (P.map cA))::pt C (wr (cs.map wl))::(S.reverse.map f9++(L.map bz++(P.map c9++[])))) H10:=(ax (n:=430+100*((j+1:Nat):Int)) (z10.toT.pull (A:=hand h _) (by symm)) nofun).sub (by ac_nf);have z12:Sep (bz ⟨t,SP,d,pp.i,pp.j,S,x⟩::pt D (wr (L.map bY++[wf t]))::hand h (430+100*((j+1:Nat):Int))::pt PL (wr (P.map cA))::pt C (wr (cs.map wl))::(L.map bz++(P.map c9++[]))) H10:=AV (Sep.mv (P:=[_,_,_]) (Δ:=[_,_,_,_]) (L:=S.reverse.map f9) z11);have em:L.map bY++[wf t]=(L++[(⟨t,SP,d,pp.i,pp.j,S,x⟩:Mb)]).map bY:=by
    rw[f8]
    rfl
   rw[em]at z12;exact Sep.push (.j2 (.j2 cC)) z12
 .rintro U H ⟨u,v,L,rfl,e,okL,zz⟩;rw[ce,take_length]at e;have hl:L.length=P.length:=by
   have:=congrArg List.length e
   rwa [ce,ce]at this
  have n0:1<=L.length:=by omega
  have n1:L.length<=4:=by omega
  have hd:(L.map bR).Pairwise dj:=by
   rw[e];exact List.pairwise_map.mpr ok.2
  rw[ce]at zz;have z4:Sep (pt C (wr (cs.map wl))::pt D (wr (L.map bY))::hand h 2400::(L.map bz++(P.map c9++[]))) H:=(ax (n:=2400) (zz.pull .k1) nofun).sub (by ac_nf);have z9:Sep (pt C (wr (cs.map wl))::pt D (wr (L.map bY))::hand h 2400::(L.map bz++[])) H:=Sep.cut (A:=pt C _::pt D _::hand h _::L.map bz) (B:=P.map c9) z4;clear zz z3 z4;right;refine CF (O:=hand h 2400::[]) ro nofun n0 n1 okL hd c0 nofun hc (Sep.mv (P:=[_,_]) (Δ:=[_]) (L:=L.map bz) (O:=[]) z9) (λc B H9 eB za=>?_);clear z9;right;have zb:Sep (pt C (wr (cs.map wl))::pt D (wr (L.map bY))::(L.map bz++(dD R c cs (sj cs) (L.map bR) (B.map dw)::(B.map (cq R)++[hand h 2400])))) H9:=Sep.mv (P:=[]) (Δ:=dD R c cs (sj cs) (L.map bR) (B.map dw)::B.map (cq R)) (L:=pt C (wr (cs.map wl))::pt D (wr (L.map bY))::L.map bz) (O:=[hand h 2400]) za;clear za;refine wM nofun n1 okL nofun zb (λWL W Ha eW zc=>?_);have zd:Sep (pt WL (wr (W.map eh))::pt C (wr (cs.map wl))::pt D (wr (L.map bY))::dD R c cs (sj cs) (L.map bR) (B.map dw)::(B.map (cq R)++((W.map eg++L.map bz)++[hand h 2400]))) Ha:=Sep.mv (P:=[_,_,_]) (Δ:=W.map eg++L.map bz) (L:=dD R c cs (sj cs) (L.map bR) (B.map dw)::B.map (cq R)) (O:=[hand h 2400]) (by rw[le];exact zc);have ze:=zd.pull (A:=hand h 2400) (.j2 (.j2 (ab (ab .e))));rw[le]at ze;have zi:bQ R h c C D WL cs (sj cs) [] L 2400 Ha:=⟨B,W,.start okL eB eW,ze.sub (by ac_nf)⟩;clear zb zc zd ze;right;refine cY (λj U H=>∃ gw u4 u5 u8 u9 u10 u11 u12,U=[some (wf a),some (wf h),some (wf C),some (wf D),u4,u5,some (wf c),some (wf WL),u8,u9,u10,u11,u12]/\gw.length=cs.length/\bQ R h c C D WL cs gw [] L (2400+30*(j:Int)) H) ⟨sj cs,_,_,none,none,none,none,none,rfl,by simp[sj],(show(2400:Int)+30*((0:Nat):Int)=2400 by omega)▸zi⟩ ?_ ?_
  .rintro j U H hj ⟨gw,u4,u5,u8,u9,u10,u11,u12,rfl,g60,zz⟩;refine GJ (k:=k) ro nofun nofun n0 n1 c0 nofun g60 zz (λgw' v4 v5 v9 v10 v11 v12 H' hg z2=>⟨gw',v4,v5,_,v9,v10,v11,v12,rfl,hg,?_⟩);rw[show(2400:Int)+30*((j+1:Nat):Int)=2400+30*(j:Int)+30 by omega];exact z2
  .rintro U H ⟨gw,u4,u5,u8,u9,u10,u11,u12,rfl,g60,zz⟩;have z0:=zz;obtain⟨_,_,_,z0⟩:=z0;right;refine af kP z0 .k3 rfl rfl ?_;left;clear z0;refine Hy ro nofun n1 nofun zz (λA F H1 lF z1=>?_);right;refine HD nofun n1 nofun z1 (λB H2 z2=>?_);obtain⟨T,z3,_⟩:=z2.o;left;refine ET (uj (z3.get .k1) z3.at) (by decide) (λe=>z3.ne e.symm) ?_;exact hQ H2
def xb (ro:Ro K R):∀ vs H Q E,jg K 63 vs H Q E->ae tab R 15 119 vs H Q E:=Fz ro (re _)
end
def walk {l:W.OpenLaw}{q:Program}{loose:List Str}{XP:(Str->Option Value)->Heap->Prop}{YP:World->Heap->Prop}{d:DefRec}{K:Params->W.Frag}(hn:l.most=some 63)(hdf:d.params.defaults=[])
    (hY:∀ (w:World) (h:Heap),YP w h->(K w.params).In h)
    (F:∀ (w:World) (mg:ME) (fa:Addr) (h:Heap),(K w.params).In h->h.Ns mainGlobals mg->mg d.name=some (.ref fa)->
      ∃ fd:FuncData,(∀ (s:Shared) (u:Value),BindsTo s fd ⟨[u],[]⟩ [("_law_script",u)])/\∀ base:Heap,(K w.params).In base->base.Ns mainGlobals mg->dy l.prog w (K w.params) mg base (xE l.prog w) 30 fa fd ["_law_script"] (jg (K w.params) 63)):
    W.WalkO q loose XP YP l.row.toRowW d [] (λf vs=>PySem.call f vs):=
  L2.BD (n:=63) (k:=30) (x:="_law_script") (CX:=λw=>xE l.prog w) (sp:=λw=>jg (K w.params) 63) hn (by decide) hdf ⟨rfl,by decide,by decide⟩ hY F (λ_ _ a ns hl _ hS=>⟨a,ns,rfl,hS,hl,λ_=>rfl⟩) λ_ _ _ _ _ z=>xO z
abbrev LI:List (Str×V):=[("BOUND",.int 1000000000),("MOST_ROWS",.int 24),("MOST_CELLS",.int 60),("MOST_MEMBERS",.int 4),("THINGS_OF_A_MEMBER",.int 4),("MOST_HOPPED",.int 24),("NAMES",.ref 239),("LEAVES",.ref 613)]
def Mq (p:Params):L3.CL (K0 p) tab Kg Ls LI=true:=by kernel_rfl
def Md (p:Params):L3.md (K0 p) tab Kg 0 tab.fns=true:=by kernel_rfl
end My
open PySem PySem.W PyProof.Rows
set_option maxRecDepth 100000 in
set_option maxHeartbeats 0 in
theorem PySem.Challenge.cw_haulbell_k74_floor_between_holds : PySem.Challenge.rw_haulbell_k74_floor_between.Holds := by
  refine holds_law My.Ib fun said=>?_
  refine W.holds_open (loose:=My.zm) (N:=20476)
    (q:=My.qG My.pr)
    (Yf:=fun s=>My.J0.map s.heap.get?)
    (Ya:=fun w=>(My.K0 w.params).map fun p=>some p.2)
    (Xt:=fun s=>xlAt (My.qG My.pr) [] s&&recOk PySem.Challenge.rw_haulbell_k74_floor_between.row.records s)
    (XP:=XL (My.qG My.pr) [])
    (YP:=InK My.K0) My.IG
    (InK.of (as:=My.J0) fun _=>by kernel_rfl) InK.keeps
    (fun s e=>xl_of s (Bool.and_eq_true_iff.mp e).1)
    XL.keeps (by rfl) (by rfl) (by rfl)
    (fun s e=>recFacts_of (Bool.and_eq_true_iff.mp e).2)
    (by rfl) (by assumption) (by decide+kernel)
    ⟨rfl,rfl,rfl,rfl,rfl,by decide+kernel⟩ ?hw ?hc
  case hw=>w_witness2
  refine My.walk (l:=PySem.Challenge.rw_haulbell_k74_floor_between) rfl rfl (fun w h Y=>Y) ?F
  case F=>
    intro w mg fa h KX G hmg;exact L3.Cb KX G hmg (T:=My.tab) (fs:=My.Kg) (cs:=My.Ls) (gs:=My.LI) (d:=My.kA) (fl:=119) (k:=15) (My.Mq _) (My.Md _) (by kernel_rfl) rfl rfl rfl (My.xb ⟨rfl,by kernel_rfl,by kernel_rfl,by kernel_rfl,by kernel_rfl,by kernel_rfl,by kernel_rfl,⟨239,by kernel_rfl,L3.yz (by kernel_rfl)⟩,⟨613,by kernel_rfl,L3.yz (by kernel_rfl)⟩⟩)
