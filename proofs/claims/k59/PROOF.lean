import PyProof.Rows.All
import Wide.All
import OpenK.AllK
import Wide.FinOn
import PySem.Challenge.RW_haulbell_k59_again_and_shared
import Lean
import PyProof.EqAt
import PyProof.EqKinds
import PyProof.TupleCall
import PyProof.EnumStmt
import PyProof.NeKinds
import PyProof.ExcAttrAll.ValueError
import PyProof.ExcInit
import PyProof.StationsW
import PyProof.NsDelKeeps
import PyProof.InstStoreFacts
import PyProof.ZipIter
import PyProof.IsiBase
import PyProof.AttrMiss
import KE.KDictOf
import KE.KDictList
import PyProof.InstEq
import PyProof.Rows.Range3
import PyProof.StrOps2
import KE.LcSums
open PySem.W renaming behindTheImports→ac
open PySem renaming wpAny_bind→ad,wpAny_pure→am,wpAny_field→ap,wpAny_holding→bd,wpAny_truthy_bool→bi,starEach→bn,sizeLine→bv,wpAny_Call_Name_kw→ce
open List renaming length_map→ci,length_append→cr,mem_of_getElem?→db,length_take→dl,mem_cons_of_mem→dL,map_append→f8,length_singleton→ge,size_toArray→ii,mem_append_right→im,getElem?_map→io,length_drop→jp,append_assoc→li,getElem?_eq_getElem→lw,mem_cons_self→mo,mem_cons→nw
open Bool renaming and_eq_true→ol
open Option renaming map_eq_some_iff→pc
open Nat renaming lt_of_lt_of_le→pi,le_of_ble_eq_true→re,ne_of_lt→sn,le_refl→sw
open Int renaming toNat_natCast→sK
open List renaming replicate→tz,getElem?_eq_some_iff→ul
open PySem.Heap renaming get?_push_of_some→ut,lt_size→v0,get?_push_size→v4
set_option linter.all false
set_option maxRecDepth 100000
set_option Elab.async false
set_option compiler.extract_closed false
theorem My.kleA {a b k:Nat}(h:a<=k)(e:Nat.ble (b+1) a=true):b<=k-1:=Nat.le_sub_one_of_lt (pi (re e) h)
theorem My.kleB {a b k:Nat}(h:a<=k)(e:Nat.ble b a=true):b<=k:=Nat.le_trans (re e) h
set_option hygiene false
local macro_rules| `(tactic|sleep $n:num)=>`(tactic|((conv at h=>lhs;whnf);iterate $n (split at h;rotate_left;cases h)))
set_option hygiene true
local macro_rules|`(command|abbrev $i:declId $s:optDeclSig $v:declVal)=>`(command|noncomputable def $i:declId $s:optDeclSig $v:declVal)
local macro_rules|`(command|def $i:declId $b:bracketedBinder* :$t $v:declVal)=>`(command|theorem $i:declId $b:bracketedBinder* :$t $v:declVal)
local macro_rules|`(nofun)=>`(by first|exact My.kleA (by assumption) (by rfl)|exact My.kleB (by assumption) (by rfl)|lia|omega)
local macro_rules|`(tactic|omega)=>`(tactic|lia)
noncomputable abbrev My.pr:PySem.Program:=PySem.Challenge.rw_haulbell_k59_again_and_shared.row.prog
open PySem PySem.W in
set_option maxHeartbeats 0 in
def My.JU:PySem.Challenge.rw_haulbell_k59_again_and_shared.wellSaid=true:=by
  rewrite [Fast.te9446332074065402090]
  kernel_rfl
namespace L2
open PySem PySem.Spec
abbrev inClass (s:Stmt)(j:Nat):Stmt:=match s with
  | .ClassDef _ _ _ body _ _ _ _ _ _ _=>body.getD j (.Pass ⟨0,0,0,0⟩)
  |_=>.Pass ⟨0,0,0,0⟩
abbrev vG (s:Stmt):Arguments:=match s with
  | .FunctionDef _ a _ _ _ _ _ _ _ _=>a
  |_=>{ posonlyargs:=[],args:=[],vararg:=none,kwonlyargs:=[],kw_defaults:=[],kwarg:=none,defaults:=[] }
abbrev wM (s:Stmt):List Stmt:=match s with
  | .FunctionDef _ _ b _ _ _ _ _ _ _=>b
  |_=>[]
abbrev sA (s:Stmt):Scope:=match s with
  | .FunctionDef _ _ _ _ _ _ sc _ _ _=>sc
  |_=>{ kind:=.function,names:=[],isGenerator:=false,isCoroutine:=false }
end L2
namespace My
open PySem L2 PySem.W
abbrev top (i:Nat):Stmt:=PySem.Challenge.pw_haulbell_k59_again_and_shared.main.body.getD i (.Pass ⟨0,0,0,0⟩)
abbrev tq (i j:Nat):Stmt:=inClass (top i) j
/-- the top's run on a tree -/
abbrev nE (tb:String->Option Builtin)(p:Program)(w:World)(m:Nat)(ann:Option Value):Nat->SharedT->Thread->Option SharedT
  |0,_,_=>none
  |n+1,s,t=>match through t with
    |true=>some s
    |false=>match stepOk m ann t with
      |false=>none
      |true=>match stepT (denote tb) p w s t with
        |some r=>nE tb p w m ann n r.1 r.2
        |none=>none
def vw {tb:String->Option Builtin}{p:Program}{w:World}{m:Nat}{ann:Option Value}:∀ {n:Nat}{s s':SharedT}{t:Thread},nE tb p w m ann n s t=some s'->topRun tb p w m ann n s.abs t=some s'.abs
  |0,_,_,_,h=>by cases h
  |n+1,s,s',t,h=>by
    unfold nE at h;unfold topRun;cases a:through t
    · rw[a]at h;dsimp only at h⊢
      cases b:stepOk m ann t
      · rw[b]at h;cases h
      · rw[b]at h;dsimp only at h⊢
        cases c:stepT (denote tb) p w s t with
        |none=>rw[c]at h;cases h
        |some r=>rw[c]at h;rw[stepT_spec c];exact vw h
    · rw[a]at h;cases h;rfl
abbrev Hq:Nat->BT->List Obj->BT
  |_,t,[]=>t
  |n,t,o::os=>Hq (n+1) (t.ins n o) os
abbrev zV (P:Params):BT:=Hq 0 .nil (boot_heap P).objs.toList
abbrev Lg (P:Params)(os:OsState):SharedT:=⟨zV P,11,(boot_heap P).life,Array.mk [],boot_drawn,boot_toks,os⟩
def wR {p q:Program}{loose:List Str}{Xt:Shared->Bool}{α:Type}{Yf:Shared->α}{Ya:World->α}{N:Nat}(e:opening p=plainProg p.main.scope.names)(hN:Nat.ble 600 N=true)(f:∀ s,fenceModules? p s=some s)
    (h0:∀ P,absHeap (zV P) 11 (boot_heap P).life=boot_heap P) (h1:∀ P,((boot_heap P).isNs mainGlobals,(boot_heap P).objs.size,(boot_heap P).nsMap mainGlobals "__annotations__")=(true,11,some (.ref 6)))
    (run:∀ (w:World) (os:OsState),(nE treeTable p w 11 (some (.ref 6)) N (Lg w.params os) (topStub p)).map (λs=>(staticsOk (importedModules p.main.body) (boot_heap w.params) s.abs.heap&&namesBound p s.abs.heap&&gensDone s.abs&&laidKept (boot_heap w.params) s.abs.heap,
      openSeen q loose (importedModules p.main.body) Xt true s.abs,Yf s.abs))=some (true,openGood q loose,Ya w)):LeftO p q loose Xt Yf Ya N:=λw=>by
  obtain⟨⟨hp,gs,d,k,os⟩,e1,e2⟩:=pc.mp (boot_open e hN f w);obtain⟨rfl,rfl,rfl,rfl⟩:hp=boot_heap w.params/\gs=Array.mk []/\d=boot_drawn/\k=boot_toks:=by simpa using e2
  obtain⟨z1,z2,z3⟩:_/\_/\_:=by simpa only [Prod.mk.injEq] using h1 w.params
  obtain⟨s,r,l⟩:=pc.mp (run w os);obtain⟨l1,l2,l3⟩:_/\_/\_:=by simpa only [Prod.mk.injEq] using l
  have r1:=vw r;have a0:(Lg w.params os).abs=⟨boot_heap w.params,Array.mk [],boot_drawn,boot_toks,os⟩:=by
    show(⟨absHeap (zV w.params) 11 (boot_heap w.params).life,Array.mk [],boot_drawn,boot_toks,os⟩:Shared)=_;rw[h0]
  rw[a0]at r1;unfold openEnds;rw[e1];have t:topFrom treeTable p w N ⟨boot_heap w.params,Array.mk [],boot_drawn,boot_toks,os⟩=some s.abs:=by
    unfold topFrom;dsimp only;rw[z1,z2,z3,r1];show(match staticsOk (importedModules p.main.body) (boot_heap w.params) s.abs.heap&&namesBound p s.abs.heap&&gensDone s.abs&&laidKept (boot_heap w.params) s.abs.heap with|true=>some s.abs|false=>none)=some s.abs;rw[l1]
  show(topFrom treeTable p w N _).map _=_;rw[t];exact congrArg some (Prod.ext l2 l3)
abbrev Lr:List Addr:=2::3::30::31::47::48::50::51::66::67::69::70::85::86::88::89::104::105::107::108::123::124::126::127::142::143::145::146::161::162::164::165::180::181::183::184::199::200::202::203::211::212::218::219::220::226::227::233::234::240::241::249::255::256::262::263::269::270::274::275::281::282::284::285::295::296::302::303::309::310::319::320::337::338::344::345::351::352::354::355::370::371::377::378::384::385::387::388::403::404::410::411::417::418::420::421::436::437::443::444::450::451::453::454::469::470::476::477::483::484::486::487::495::496::502::503::509::510::518::524::525::531::532::538::539::545::546::566::567::573::574::580::581::585::586::592::593::595::596::613::614::620::621::627::628::634::635::637::638::650::656::657::663::664::668::669::675::676::682::683::689::690::692::693::701::702::708::709::717::723::724::730::731::737::738::740::741::749::750::756::757::763::764::770::771::777::778::784::785::798::799::805::806::808::809::824::825::831::832::834::835::850::851::857::858::860::861::876::877::883::884::886::887::902::903::909::910::912::913::928::929::935::936::938::939::942::948::949::955::956::962::963::976::977::983::984::990::991::997::998::1004::1005::1011::1012::1018::1019::1025::1026::1032::1033::1039::1040::1042::1043::1053::1054::1060::1061::1067::1068::1072::1073::1079::1080::1093::1094::1100::1101::1107::1108::1114::1115::1121::1122::1128::1129::1135::1136::1142::1143::1149::1150::1156::1157::1163::1164::1170::1171::1177::1178::1184::1185::1189::1190::1199::1200::1206::1207::1213::1214::1220::1221::1225::1226::1230::1231::1237::1238::1242::1243::[]
abbrev LA:List Addr:=48::67::86::105::124::143::162::181::200::212::219::227::234::241::256::263::270::275::282::296::303::310::338::345::352::371::378::385::404::411::418::437::444::451::470::477::484::496::503::510::525::532::539::546::567::574::581::586::593::614::621::628::635::657::664::669::676::683::690::702::709::724::731::738::750::757::764::771::778::785::799::806::825::832::851::858::877::884::903::910::929::936::949::956::963::977::984::991::998::1005::1012::1019::1026::1033::1040::1054::1061::1068::1073::1080::1094::1101::1108::1115::1122::1129::1136::1143::1150::1157::1164::1171::1178::1185::1190::1200::1207::1214::1221::1226::1231::1238::1243::[]
abbrev lu:List Addr:=[31,51,70,89,108,127,146,165,184,203,285,320,355,388,421,454,487,596,638,693,741,809,835,861,887,913,939,1043]
abbrev runK (tb:String->Option Builtin)(p:Program)(w:World)(m:Nat)(ann:Option Value):Nat->SharedT->Thread->Option (SharedT×Thread)
  |0,s,t=>some (s,t)
  |n+1,s,t=>match through t with
    |true=>none
    |false=>match stepOk m ann t with
      |false=>none
      |true=>match stepT (denote tb) p w s t with
        |some r=>runK tb p w m ann n r.1 r.2
        |none=>none
def cG {tb:String->Option Builtin}{p:Program}{w:World}{m:Nat}{ann:Option Value}{k:Nat}:∀ {n:Nat}{s:SharedT}{t:Thread}{r:SharedT×Thread},runK tb p w m ann n s t=some r->nE tb p w m ann (n+k) s t=nE tb p w m ann k r.1 r.2
  |0,s,t,r,h=>by
    rw[Nat.zero_add];cases h
    rfl
  |n+1,s,t,r,h=>by
    rw[Nat.succ_add];unfold runK at h;conv=>lhs;unfold nE
    cases a:through t
    · rw[a]at h;dsimp only at h⊢
      cases b:stepOk m ann t
      · rw[b]at h;cases h
      · rw[b]at h;dsimp only at h⊢
        cases c:stepT (denote tb) p w s t with
        |none=>rw[c]at h;cases h
        |some r=>rw[c]at h;exact cG h
    · rw[a]at h;cases h
abbrev kT (x y:Str)(s:Stmt):Obj:=⟨.none,none,.func { name:=x,qualname:=y,params:=vG s,body:=.stmts (wM s),scope:=sA s,globals:=builtinsNs,closure:=[],defaults:=.none,kwdefaults:=.none },#[]⟩
abbrev bo (P:Params)(i:Nat):Obj:=(boot_heap P).objs.toList.getD i ⟨.none,none,.plain,#[]⟩
abbrev ji (p:Program):Env:={ scope:=p.main.scope,locals:=mainNs,globals:=mainNs,cells:=[],code:=.ref 13,frame:=some 14 }
abbrev MS:Frame:=.ret (λx=>Sem.bind (match x with| .ok f=>Sem.pure f| .error e=>Sem.raise e) (λ_=>ret .none)) none false [] (.builtin "claim.caller" {}) default []
abbrev CA (p:Program)(X:List Stmt):Sem Fin:=Sem.bind (Sem.onRaise (execs X (ji p)) (leaving (ji p))) (λa=>Sem.pure (Fin.done a))
abbrev jD (p:Program)(X:List Stmt)(q:Pos):Thread:=⟨CA p X,.body (ac p) (ji p),q,[MS]⟩
def BJ {tb:String->Option Builtin}{p:Program}(h:blockStart (ac p) (ji p)=Sem.pure ()):denote tb (.body (ac p) (ji p))=CA p (ac p):=by
  show Sem.bind (blockStart (ac p) (ji p)) (λ_=>CA p (ac p))=_;rw[h]
  rfl
abbrev o0:Obj:=⟨.type "tuple",none,.seq #[] 0,#[]⟩
abbrev oN:Obj:=⟨.none,none,.fields #[],#[]⟩
abbrev oL:List Str->Nat->List Value
  | [],_=>[]
  |x::r,t=>.str x t::oL r (t+1)
abbrev oS (l:List Str)(t:Nat):Obj:=⟨.type "tuple",none,.seq (Array.mk (oL l t)) 0,#[]⟩
abbrev Lj (l:List (Int×Nat)):Array Value:=(l.flatMap λp=>[.int p.1 0,.int 0 0,.ref p.2]).toArray
abbrev M3:List (Int×Nat):=[(1,20),(5,27),(7,40),(12,59),(19,78),(25,97),(31,116),(36,135),(41,154),(46,173),(51,192),(58,211),(60,218),(64,226),(66,233),(68,240),(76,247),(104,295),(107,302),(110,309),(113,316),(115,330),(129,363)]
abbrev Nk:List (Int×Nat):=M3++[(143,396),(157,429),(169,462),(186,495),(192,502),(195,509),(202,516),(248,606),(264,648)]
abbrev Nm:List (Int×Nat):=Nk++[(300,701),(302,708),(304,715),(323,749),(325,756),(327,763),(330,770),(333,777),(336,784),(343,791),(355,817),(366,843),(381,869),(398,895),(416,921)]
abbrev NS:List (Int×Nat):=Nm++[(434,948),(440,955),(442,962),(444,969),(492,1053),(498,1060),(514,1067),(522,1072),(525,1079),(533,1086),(535,1093),(544,1100),(555,1107),(573,1114),(588,1121),(591,1128),(595,1135),(609,1142),(617,1149),(628,1156),(651,1163),(680,1170),(698,1177),(703,1184),(705,1189),(714,1194),(717,1199),(730,1206),(738,1213),(740,1220),(744,1225),(746,1230),(756,1237)]
abbrev oI (l c a:Nat):Obj:=⟨.none,none,.fields #[.int l 0,.int c 0,.ref a],#[]⟩
abbrev oK (x:Str)(t l r:Nat):Obj:=⟨.type "code",none,.fields #[.str x t,.str x (t+1),.str "/claim/cut.py" (t+2),.int l 0,.int 0 0,.int 0 0,.int 0 0,.int 0 0,.ref r,.bool false,.int 181 0,.ref (r+1),.none,.none,.none,.none,.int (t+3:Nat) 0,.int l 0,.str "/claim/cut.py" (t+4)],#[]⟩
abbrev oC (x y:Str)(t l n r u:Nat):Obj:=⟨.type "code",none,.fields #[.str x t,.str y (t+1),.str "/claim/cut.py" (t+2),.int l 0,.int n 0,.int 0 0,.int 0 0,.int 3 0,.ref r,.bool true,.int 181 0,.ref (r+1),.none,.ref (r+2),.ref (r+3),.ref (r+4),.int u 0,.int l 0,.str "/claim/cut.py" (u+1)],#[]⟩
abbrev oF (x y:Str)(s:Stmt)(m:Str)(t c:Nat)(d:Value:=.none):Obj:=⟨.type "function",none,.func (fnOf x y (vG s) (wM s) (sA s) d .none .none (.str m t) none (.ref c) .none),#[]⟩
abbrev oR (a b:Nat)(m:Str)(t:Nat):Obj:=⟨.type "frame",none,.plain,#[some (.ref a),some (.ref 3),some (.ref b),none,some (.str m t),none,some (.ref 0)]⟩
abbrev oX (x:Str)(b m:List Value)(n:Addr)(s:List Value)(r t u:Nat)(w:String):Obj:=⟨.type "type",none,.cls ⟨x,b,m,n,x,true,[],s,false,none,false⟩,#[some (.ref r),none,some (.str x t),some (.str x u),some (.builtin w),some (.bool true)]⟩
abbrev oU (a:Addr):Obj:=⟨.type "super",none,.fields #[.ref a,.ref a,.ref a],#[]⟩
abbrev oJ (a:Addr):Obj:=⟨.type "builtin_function_or_method",none,.fields #[.builtin "object.__init_subclass__",.ref a],#[]⟩
abbrev oP:Obj:=⟨.type "builtin_function_or_method",none,.fields #[.builtin "type.__prepare__",.type "type"],#[]⟩
abbrev oQ (a:Addr):Obj:=⟨.type "tuple",none,.seq #[.ref a] 0,#[]⟩
abbrev fG (x y:Str)(s:Stmt)(m:Str)(mt:Nat)(l:List Str)(t ln n a:Nat)(r:List Obj):List Obj:=o0::oN::oS l (t+3)::o0::kT x y s::oC x y t ln n a (t+3+l.length)::oF x y s m mt (a+5)::r
abbrev oW:List (Nat×Obj)->List Obj->List Obj
  | [],l=>l
  |x::r,l=>(oW r l).set x.1 x.2
abbrev eV (x:Str)(t:Tok)(v:Value)(P:Params):DictEntry:=⟨PyData.keyHash P x,.str x t,v⟩
abbrev eM (t:Nat)(m:Str)(u:Nat):Params->DictEntry:=eV "__module__" t (.str m u)
abbrev eQ (t:Nat)(m:Str)(u:Nat):Params->DictEntry:=eV "__qualname__" t (.str m u)
abbrev eF (t l u:Nat):Params->DictEntry:=eV "__firstlineno__" t (.int l u)
abbrev eS (t a:Nat):Params->DictEntry:=eV "__static_attributes__" t (.ref a)
abbrev eN (t:Nat):Params->DictEntry:=eV "__doc__" t .none
abbrev eR (x:Str)(t a:Nat):Params->DictEntry:=eV x t (.ref a)
abbrev oD (P:Params)(es:List (Params->DictEntry))(n:Nat):Obj:=⟨.type "dict",none,.dict (Array.mk (es.map λf=>f P)) n,#[]⟩
abbrev NP (P:Params):List Obj:=
bo P 0::
bo P 1::
bo P 2::
bo P 3::
bo P 4::
bo P 5::
bo P 6::
bo P 7::
bo P 8::
bo P 9::
bo P 10::
o0::
oN::
oK "<module>" 182 1 11::
oR 13 3 "__main__" 164::[]
abbrev NL (x y:Str)(t l n r:Nat):Obj:=⟨.type "code",none,.fields #[.str x t,.str y (t+1),.str "/claim/cut.py" (t+2),.int l 0,.int n 0,.int 0 0,.int 0 0,.int 3 0,.ref r,.bool true,.int 181 0,.ref (r+1),.none,.none,.none,.ref (r+2),.int (t+3:Nat) 0,.int l 0,.str "/claim/cut.py" (t+4)],#[]⟩
abbrev oG (x b:String)(v:Value)(a t:Nat):Obj:=⟨.type "getset_descriptor",none,.fields #[.str (Str.ofString x) t,.ref a,.builtin b,v],#[]⟩
@[reducible]def Mt:Type:=Str×Str×List Str×Nat×Nat×List (Obj×Nat)
abbrev EY (a t:Nat)(s:Stmt)(m:Str×Nat)(x y:Str)(l:List Str)(ln n:Nat)(d:Value):List Obj:=match l with
  | []=>o0::oN::kT x y s::NL x y t ln n a::oF x y s m.1 m.2 (a+3) d::[]
  |_=>o0::oN::oS l (t+3)::o0::kT x y s::oC x y t ln n a (t+3+l.length)::oF x y s m.1 m.2 (a+5) d::[]
abbrev Nc (a t:Nat)(s:Stmt)(m:Str×Nat)(q:Mt):List Obj:=match q.2.2.2.2.2 with
  | []=>EY a t s m q.1 q.2.1 q.2.2.1 q.2.2.2.1 q.2.2.2.2.1 .none
  |d::_=>d.1::EY (a+1) (t+d.2) s m q.1 q.2.1 q.2.2.1 q.2.2.2.1 q.2.2.2.2.1 (.ref a)
abbrev ED (q:Mt)(a:Nat):Nat:=match q.2.2.1 with
  | []=>a+5+q.2.2.2.2.2.length
  |_=>a+7+q.2.2.2.2.2.length
abbrev KS (q:Mt)(t:Nat):Nat:=match q.2.2.2.2.2 with
  | []=>t+6+q.2.2.1.length
  |d::_=>t+d.2+6+q.2.2.1.length
abbrev Nd (i:Nat)(m:Str×Nat):Nat->List Mt->Nat->Nat->(List Obj->Nat->Nat->List Obj)
  |_,[],_,_=>λr _ _=>r
  |j,q::l,a,t=>λr x y=>Nc a t (inClass (top i) j) m q++Nd i m (j+1) l (ED q a) (KS q t) r x y
abbrev Na:List Mt->Nat->Nat
  | [],a=>a
  |q::l,a=>Na l (ED q a)
abbrev M4:List Mt->Nat->Nat
  | [],a=>a
  |q::l,a=>M4 l (KS q a)
abbrev Ni:List Mt->Nat->Nat->List (Params->DictEntry)->List (Params->DictEntry)
  | [],_,_,r=>r
  |q::l,a,t,r=>eR q.1 (KS q t-1) (ED q a-1)::Ni l (ED q a) (KS q t) r
abbrev Nl:List Mt->Nat->List Value
  | [],_=>[]
  |q::l,a=>.int q.2.2.2.1 0::.int 4 0::.ref (ED q a-2)::Nl l (ED q a)
@[reducible]def It:Type:=(Params->List Obj)×List (Params->DictEntry)×List Value
abbrev iF (a t i:Nat)(m:Str×Nat)(x:Str)(l:List Str)(ln n:Nat)(d:List (Obj×Nat):=[]):It:=(λ_=>Nc a t (top i) m (x,x,l,ln,n,d),eR x (KS (x,x,l,ln,n,d) t-1) (ED (x,x,l,ln,n,d) a-1)::[],.int ln 0::.int 0 0::.ref (ED (x,x,l,ln,n,d) a-2)::[])
abbrev iR (o:Params->List Obj):It:=(o,[],[])
abbrev iE (x:Str)(t:Nat)(v:Value):It:=(λ_=>[],[eV x t v],[])
abbrev iC (a T i:Nat)(m:Str×Nat)(x:Str)(ln:Nat)(ms:List Mt)(st:List Str)(sub:List Value:=[]) (br:Nat:=0) (mro:List Value:=[]) (w:String:=""):It:=
  let b:=Na ms (a+7)
  let s:=M4 ms (T+12)
  let e:=s+st.length
  let h (z:List (Params->DictEntry)):=eF (T+11) ln (T+10)::Ni ms (a+7) (T+12) (eS e b::z)
  let o (y:List (Params->DictEntry)) (z k:Obj) (n:Nat) (r:List Obj) (P:Params):List Obj:=z::oP::oD P (eM (T+7) m.1 m.2::eQ (T+9) x (T+8)::h []) (4+ms.length)::o0::⟨.none,none,.fields (Array.mk (Nl ms (a+7))),#[]⟩::oK x (T+2) ln (a+3)::oR (a+5) (a+2) m.1 m.2::Nd i m 0 ms (a+7) (T+12) ((match st with| []=>o0|_=>oS st s)::oD P (eM (T+7) m.1 m.2::h y) n::k::r) 0 0
  match br with
  |0=>(o [eR "__dict__" (e+2) (b+3),eR "__weakref__" (e+4) (b+4),eN (e+5)] o0 ⟨.type "type",none,.cls ⟨x,[.type "object"],[.ref (b+2),.type "object"],b+1,x,true,[],sub,false,none,false⟩,#[none,none,some (.str x T),some (.str x (T+8)),some (.builtin "object.__new__"),some (.bool true)]⟩ 4 [oG "__dict__" "function.__dict__" (.builtin "function.__dict__#set") (b+2) (e+1),oG "__weakref__" "ExceptionGroup.__weakref__" .none (b+2) (e+3),oU (b+2),oJ (b+2)],eR x (e+7) (b+2)::[],.int ln 0::.int 0 0::.ref (a+5)::[])
  |_=>(o [eN (e+1)] (oQ br) (oX x [.ref br] (.ref (b+2)::.ref br::mro) (b+1) sub a T (T+8) w) 2 [oU (b+2),oJ (b+2)],eR x (e+3) (b+2)::[],.int ln 0::.int 0 0::.ref (a+5)::[])
abbrev JS (P:Params)(nm:Str)(nt n:Nat)(l:List It):List Obj:=bo P 0::bo P 1::bo P 2::oD P (eV "__name__" 165 (.str nm nt)::eN 166::eV "__package__" 167 .none::eV "__loader__" 168 (.builtin "__main__.__loader__#opaque")::eV "__spec__" 169 .none::eR "__annotations__" 170 6::eR "__builtins__" 171 4::eV "__file__" 173 (.str "/claim/cut.py" 172)::eV "__cached__" 174 .none::l.flatMap (·.2.1)) n::bo P 4::bo P 5::bo P 6::bo P 7::bo P 8::bo P 9::bo P 10::o0::⟨.none,none,.fields (Array.mk (l.flatMap (·.2.2))),#[]⟩::oK "<module>" 182 1 11::oR 13 3 "__main__" 164::l.flatMap (·.1 P)
abbrev Nz:Str×Nat:=("__main__",164)
abbrev Eb:Str×Nat:=("haulbell.errors",194)
abbrev MX:Str×Nat:=("haulbell.wholes",447)
abbrev IT:Str×Nat:=("haulbell.boxes",465)
abbrev Ff:Str×Nat:=("haulbell.deeds",577)
abbrev Lx:Str×Nat:=("haulbell.machine",827)
abbrev MZ:Str×Nat:=("haulbell.watched",970)
abbrev ME:Str×Nat:=("haulbell.hops",1103)
abbrev yE:Str×Nat:=("haulbell.longs",1165)
abbrev Ls:Str×Nat:=("haulbell.store",1419)
abbrev bN:Str×Nat:=("law_haulbell_k59_again_and_shared",1557)
abbrev CV (a T i:Nat)(m:Str×Nat)(x:Str)(ln:Nat)(ms:List Mt)(st:List Str)(sub:List Value:=[]):It:=iC a T i m x ln ms st sub 31 [.type "ValueError",.type "Exception",.type "BaseException",.type "object"] "ValueError.__new__"
abbrev yJ (a T i:Nat)(m:Str×Nat)(x:Str)(ln:Nat)(ms:List Mt)(st:List Str)(sub:List Value:=[]):It:=iC a T i m x ln ms st sub 320 [.type "object"] "object.__new__"
abbrev NC (a T i:Nat)(m:Str×Nat)(x:Str)(ln:Nat)(ms:List Mt)(st:List Str)(sub:List Value:=[]):It:=iC a T i m x ln ms st sub 596 [.type "object"] "object.__new__"
abbrev Ao:List It:=
iF 15 187 0 Nz "_wall" ["k"] 1 1::
iE "HaulError" 213 (.ref 31)::
iR (λP=>[⟨.type "tuple",none,.seq #[.type "ValueError"] 0,#[]⟩,oP,oD P [eM 203 "haulbell.errors" 194,eQ 205 "HaulError" 204,eF 207 5 206,eS 208 29] 4,o0,oN,oK "HaulError" 198 5 25,oR 27 24 "haulbell.errors" 194,o0,oD P [eM 203 "haulbell.errors" 194,eF 207 5 206,eS 208 29,eR "__weakref__" 210 32,eN 211] 3,oX "HaulError" [.type "ValueError"] [.ref 31,.type "ValueError",.type "Exception",.type "BaseException",.type "object"] 30 [.ref 51,.ref 70,.ref 89,.ref 108,.ref 127,.ref 146,.ref 165,.ref 184,.ref 203] 22 196 204 "ValueError.__new__",⟨.type "getset_descriptor",none,.fields #[.str "__weakref__" 209,.ref 31,.builtin "ExceptionGroup.__weakref__",.none],#[]⟩,oU 31,oJ 31])::
CV 35 214 3 Eb "NoStore" 7 [("__init__","NoStore.__init__",["self","at"],9,2,[])] ["at"]::
CV 54 239 4 Eb "NoLeave" 12 [("__init__","NoLeave.__init__",["self","low","behind","word"],14,4,[])] ["behind","low","word"]::
CV 73 268 5 Eb "Stop" 19 [("__init__","Stop.__init__",["self","deed","cell"],21,3,[])] ["cell","deed"]::
CV 92 295 6 Eb "NoFit" 25 [("__init__","NoFit.__init__",["self","box","number"],27,3,[])] ["box","number"]::
CV 111 322 7 Eb "NoBox" 31 [("__init__","NoBox.__init__",["self","box"],33,2,[])] ["box"]::
CV 130 347 8 Eb "NoDeed" 36 [("__init__","NoDeed.__init__",["self","word"],38,2,[])] ["word"]::
CV 149 372 9 Eb "NoRows" 41 [("__init__","NoRows.__init__",["self","at"],43,2,[])] ["at"]::
CV 168 397 10 Eb "NoPlace" 46 [("__init__","NoPlace.__init__",["self","at"],48,2,[])] ["at"]::
CV 187 422 11 Eb "NoBack" 51 [("__init__","NoBack.__init__",["self","many"],53,2,[])] ["many"]::
iE "BOUND" 450 (.int 1000000000 449)::
iF 206 451 14 MX "is_whole" ["thing"] 58 1::
iF 213 458 15 MX "is_content" ["thing"] 60 1::
iE "NAMES" 473 (.ref 220)::
iR (λ_=>[oS ["here","there","left","way","sign","met"] 467])::
iF 221 474 18 IT "is_box" ["thing"] 64 1::
iF 228 481 19 IT "is_number" ["thing"] 66 1::
iF 235 488 20 IT "fits" ["box","thing"] 68 2::
iC 242 496 21 IT "Boxes" 76 [("__init__","Boxes.__init__",["self","here","there","left","way","sign","met","handed","box","number"],78,7,[(⟨.type "tuple",none,.seq #[.int 0 508,.int 0 509,.int 0 510,.int 1 511,.int 0 512,.int 0 513] 0,#[]⟩,6)]),("holds","Boxes.holds",["self","box"],85,2,[]),("give","Boxes.give",["self","box","number"],90,3,[]),("told","Boxes.told",[],97,1,[]),("copied","Boxes.copied",["self","other"],100,1,[])] ["numbers"]::
iF 290 570 22 IT "boxes_of" ["numbers"] 104 1::
iF 297 579 24 Ff "check_box" ["word","box"] 107 2::
iF 304 587 25 Ff "check_number" ["word","number"] 110 2::
iC 311 595 0 Ff "Deed" 113 [] [] [.ref 355,.ref 388,.ref 421,.ref 454,.ref 487,.ref 741,.ref 809,.ref 835,.ref 861,.ref 887,.ref 913,.ref 939]::
yJ 325 615 27 Ff "Set" 115 [("__init__","Set.__init__",["self","box","number"],117,3,[]),("step","Set.step",["self","boxes","store"],123,3,[]),("words","Set.words",["self"],127,1,[])] ["box","number"]::
yJ 358 658 28 Ff "Add" 129 [("__init__","Add.__init__",["self","box","number"],131,3,[]),("step","Add.step",["self","boxes","store"],137,3,[]),("words","Add.words",["self"],141,1,[])] ["box","number"]::[]
abbrev kK:List It:=
yJ 391 701 29 Ff "Take" 143 [("__init__","Take.__init__",["self","box","other"],145,3,[]),("step","Take.step",["self","boxes","store"],151,3,[]),("words","Take.words",["self"],155,1,[])] ["box","other"]::
yJ 424 744 30 Ff "Read" 157 [("__init__","Read.__init__",["self","box"],159,2,[]),("step","Read.step",["self","boxes","store"],163,3,[]),("words","Read.words",["self"],167,1,[])] ["box"]::
yJ 457 785 31 Ff "Write" 169 [("__init__","Write.__init__",["self","box"],171,2,[]),("step","Write.step",["self","boxes","store","number"],175,3,[]),("words","Write.words",["self"],182,1,[])] ["box"]::
iE "MOST_ROWS" 830 (.int 24 829)::
iF 490 831 34 Lx "check_rows" ["rows","at","thing"] 186 1::
iF 497 840 35 Lx "check_place" ["at","many"] 192 2::
iF 504 848 36 Lx "tried" ["deed","boxes","store","stop","refusal"] 195 3::
iC 511 859 37 Lx "Machine" 202 [("__init__","Machine.__init__",["self","rows","store","boxes","at"],204,5,[(⟨.type "tuple",none,.seq #[.int 0 871] 0,#[]⟩,1)]),("ended","Machine.ended",["self"],212,1,[]),("step_on","Machine.step_on",["self","store","by"],215,2,[]),("step","Machine.step",["self"],224,1,[]),("run","Machine.run",["self","most"],227,2,[]),("why","Machine.why",["self"],230,1,[]),("state","Machine.state",["self"],233,1,[]),("leaves","Machine.leaves",["self"],236,1,[]),("leave","Machine.leave",["self","low","behind","word"],239,4,[]),("rows","Machine.rows",[],242,1,[]),("copied","Machine.copied",["self"],245,1,[])] ["at","boxes","deeds","store"] [.ref 693]::
iC 601 972 39 MZ "Noted" 248 [("__init__","Noted.__init__",["self","store"],250,2,[]),("may","Noted.may",["self","deed","cell"],255,3,[]),("look","Noted.look",["self","cell"],258,2,[]),("put","Noted.put",["self","cell","content"],261,3,[])] ["before","changes","store"]::
NC 643 1029 40 MZ "Watched" 264 [("__init__","Watched.__init__",["self","rows","store","boxes","at"],266,5,[(⟨.type "tuple",none,.seq #[.int 0 1041] 0,#[]⟩,1)]),("step","Watched.step",["self","row","ahead","noted","word"],270,1,[]),("log","Watched.log",[],279,1,[]),("back","Watched.back",["self","many","turn"],282,2,[]),("undo","Watched.undo",["self","entry","change"],288,2,[]),("copied","Watched.copied",["self","other"],294,1,[])] ["at","boxes","entries"]::[]
abbrev GA:List It:=
iE "MOST_HOPPED" 1106 (.int 24 1105)::
iF 696 1107 43 ME "is_many" ["thing"] 300 1::
iF 703 1114 44 ME "is_on" ["thing"] 302 1::
yJ 710 1121 45 ME "Hop" 304 [("__init__","Hop.__init__",["self","many","on"],306,3,[(⟨.type "tuple",none,.seq #[.none] 0,#[]⟩,0)]),("step","Hop.step",["self","boxes","store"],312,3,[]),("words","Hop.words",["self","told"],317,1,[])] ["many","on"]::
iF 744 1167 47 yE "more" ["boxes","box","by"] 323 3::
iF 751 1176 48 yE "go_by_way" ["boxes","box"] 325 2::
iF 758 1184 49 yE "less_left" ["boxes","by"] 327 2::
iF 765 1192 50 yE "ask_put" ["store","cell"] 330 2::
iF 772 1200 51 yE "haul" ["store","source","target","content"] 333 3::
iF 779 1210 52 yE "exchange" ["store","one","other","first","second"] 336 3::
yJ 786 1221 53 yE "Copy" 343 [("step","Copy.step",["self","boxes","store"],345,3,[]),("words","Copy.words",["self"],353,1,[])] []::
yJ 812 1253 54 yE "Fill" 355 [("step","Fill.step",["self","boxes","store"],357,3,[]),("words","Fill.words",["self"],364,1,[])] []::
yJ 838 1285 55 yE "Seek" 366 [("step","Seek.step",["self","boxes","store"],368,3,[]),("words","Seek.words",["self"],379,1,[])] []::
yJ 864 1317 56 yE "Match" 381 [("step","Match.step",["self","boxes","store","content"],383,3,[]),("words","Match.words",["self"],396,1,[])] []::
yJ 890 1350 57 yE "Shift" 398 [("step","Shift.step",["self","boxes","store","left","here","there"],400,3,[]),("words","Shift.words",["self"],414,1,[])] []::
yJ 916 1385 58 yE "Turn" 416 [("step","Turn.step",["self","boxes","store","left","here"],418,3,[]),("words","Turn.words",["self"],429,1,[])] []::[]
abbrev IH:List It:=
iE "MOST_CELLS" 1422 (.int 60 1421)::
iE "LEAVES" 1426 (.ref 942)::
iR (λ_=>[oS ["open","look","shut"] 1423])::
iF 943 1427 62 Ls "check_cells" ["cells","at","thing"] 434 1::
iF 950 1436 63 Ls "is_leave" ["word"] 440 1::
iF 957 1443 64 Ls "is_within" ["low","behind","size"] 442 3::
iC 964 1452 65 Ls "Store" 444 [("__init__","Store.__init__",["self","cells"],446,2,[]),("size","Store.size",["self"],451,1,[]),("told","Store.told",["self"],454,1,[]),("leaves","Store.leaves",["self"],457,1,[]),("leave","Store.leave",["self","low","behind","word","cell"],460,4,[]),("may","Store.may",["self","deed","cell"],466,3,[]),("look","Store.look",["self","cell"],473,2,[]),("put","Store.put",["self","cell","content"],478,3,[]),("restore","Store.restore",["self","cell","content"],483,3,[]),("copied","Store.copied",["self","other"],486,1,[])] ["contents","permits"]::
iF 1048 1559 67 bN "_law_hand" ["_law_script","_law_cells_here","_law_fold","_law_cell"] 492 1::
iF 1055 1569 68 bN "_law_draw" ["_law_hand_here","_law_many","_law_rest","_law_cell","_law_one","_law_two"] 498 2::
iF 1062 1581 69 bN "_law_content" ["_law_hand_here","_law_way","_law_few"] 514 1::
iF 1069 1590 70 bN "_law_cells" [] 522 2::
iF 1074 1596 71 bN "_law_leaves" ["_law_hand_here","_law_many","_law_leaves_here","_law_k","_law_word","_law_low","_law_cell"] 525 2::
iF 1081 1609 72 bN "_law_whole" ["_law_thing"] 533 1::
iF 1088 1616 73 bN "_law_spot" ["_law_hand_here","_law_many","_law_way"] 535 2::
iF 1095 1625 74 bN "_law_six" ["_law_hand_here","_law_cells_here","_law_many","_law_way","_law_left","_law_sign","_law_here","_law_there"] 544 2::
iF 1102 1639 75 bN "_law_spec" ["_law_hand_here","_law_size","_law_way","_law_names","_law_box","_law_pick"] 555 2::
iF 1109 1651 76 bN "_law_deed" ["_law_spec_here","_law_word"] 573 1::
iF 1116 1659 77 bN "_law_long" ["_law_word","_law_made"] 588 1::
iF 1123 1667 78 bN "_law_let" ["_law_leaves_here","_law_deed_here","_law_cell"] 591 3::
iF 1130 1676 79 bN "_law_reach" ["_law_spec_here","_law_boxes_here","_law_here","_law_there","_law_left","_law_word","_law_far","_law_found"] 595 2::
iF 1137 1690 80 bN "_law_fits" ["_law_box","_law_number"] 609 2::
iF 1144 1698 81 bN "_law_barred" ["_law_spec_here","_law_boxes_here","_law_leaves_here","_law_looks","_law_puts","_law_cell"] 617 3::
iF 1151 1710 82 bN "_law_step" ["_law_spec_here","_law_boxes_here","_law_cells_here","_law_leaves_here","_law_barred_here","_law_word","_law_number"] 628 4::
iF 1158 1723 83 bN "_law_moved" ["_law_word","_law_boxes_here","_law_cells_here","_law_here","_law_there","_law_left","_law_way","_law_size","_law_content_here"] 651 3::
iF 1165 1738 84 bN "_law_looked" ["_law_word","_law_boxes_here","_law_cells_here","_law_here","_law_there","_law_left","_law_way","_law_other"] 680 3::
iF 1172 1752 85 bN "_law_store" ["_law_cells_here","_law_leaves_here","_law_store_here","_law_cell"] 698 2::
iF 1179 1762 86 bN "_law_boxes" ["_law_six_here"] 703 1::
iF 1186 1769 87 bN "_law_own" [] 705 3::
iF 1191 1775 88 bN "_law_watched" [] 714 1::
iF 1196 1781 89 bN "_law_go" [] 717 1::
iF 1201 1787 90 bN "_law_undo" ["_law_own_here","_law_many","_law_k","_law_at","_law_boxes_here","_law_changes","_law_box","_law_number","_law_cell","_law_before","_law_behind"] 730 2::
iF 1208 1804 91 bN "_law_state" ["_law_own_here"] 738 1::
iF 1215 1811 92 bN "_law_stands" ["_law_machine","_law_own_here"] 740 2::
iF 1222 1819 93 bN "_law_twin" [] 744 1::
iF 1227 1825 94 bN "_law_messed" [] 746 1::
iF 1232 1831 95 bN "_law_turn" ["_law_hand_here","_law_machine","_law_own_here","_law_many","_law_step_here"] 756 3::[]
abbrev NB (P:Params):List Obj:=oW [(12,⟨.none,none,.fields (Lj M3),#[]⟩),(320,⟨.type "type",none,.cls ⟨"Deed",[.type "object"],[.ref 320,.type "object"],319,"Deed",true,[],[.ref 355,.ref 388],false,none,false⟩,#[none,none,some (.str "Deed" 595),some (.str "Deed" 603),some (.builtin "object.__new__"),some (.bool true)]⟩)] (JS P "haulbell.deeds" 577 34 Ao)
abbrev Nu (P:Params):List Obj:=oW [(12,⟨.none,none,.fields (Lj Nk),#[]⟩),(320,⟨.type "type",none,.cls ⟨"Deed",[.type "object"],[.ref 320,.type "object"],319,"Deed",true,[],[.ref 355,.ref 388,.ref 421,.ref 454,.ref 487],false,none,false⟩,#[none,none,some (.str "Deed" 595),some (.str "Deed" 603),some (.builtin "object.__new__"),some (.bool true)]⟩)] (JS P "haulbell.watched" 970 44 (Ao++kK))
abbrev NM (P:Params):List Obj:=oW [(12,⟨.none,none,.fields (Lj Nm),#[]⟩)] (JS P "haulbell.longs" 1165 60 (Ao++kK++GA))
abbrev Nw (P:Params):List Obj:=oW [(12,⟨.none,none,.fields (Lj NS),#[]⟩)] (JS P "law_haulbell_k59_again_and_shared" 1557 95 (Ao++kK++GA++IH))
abbrev S0 (P:Params)(os:OsState):SharedT:=⟨Hq 0 .nil (NP P),15,(boot_heap P).life,Array.mk [],boot_drawn,187,os⟩
abbrev q0:Pos:=⟨0,0,0,0⟩
abbrev S1 (P:Params)(os:OsState):SharedT:=⟨Hq 0 .nil (NB P),391,(boot_heap P).life,Array.mk [],boot_drawn,701,os⟩
abbrev q1:Pos:=⟨129,0,142,50⟩
abbrev S2 (P:Params)(os:OsState):SharedT:=⟨Hq 0 .nil (Nu P),696,(boot_heap P).life,Array.mk [],boot_drawn,1103,os⟩
abbrev q2:Pos:=⟨264,0,297,20⟩
abbrev S3 (P:Params)(os:OsState):SharedT:=⟨Hq 0 .nil (NM P),942,(boot_heap P).life,Array.mk [],boot_drawn,1419,os⟩
abbrev q3:Pos:=⟨416,0,430,23⟩
abbrev S4 (P:Params)(os:OsState):SharedT:=⟨Hq 0 .nil (Nw P),1239,(boot_heap P).life,Array.mk [],boot_drawn,1842,os⟩
abbrev q4:Pos:=⟨756,0,766,15⟩
abbrev ND (P:Params):List Obj:=JS P "law_haulbell_k59_again_and_shared" 1557 96 (Ao++kK++GA++IH++[iF 1239 1842 96 bN "law" [] 767 1])
abbrev K0 (P:Params):PySem.W.Frag:=Lr.map λa=>(a,(ND P).getD a oN)
abbrev rO (p:Program):Program:=PySem.W.view p [96]
abbrev A4:List Str:="_wall"::"HaulError"::"NoStore"::"NoLeave"::"Stop"::"NoFit"::"NoBox"::"NoDeed"::"NoRows"::"NoPlace"::"NoBack"::"BOUND"::"is_whole"::"is_content"::"NAMES"::"is_box"::"is_number"::"fits"::"Boxes"::"boxes_of"::"check_box"::"check_number"::"Deed"::"Set"::"Add"::"Take"::"Read"::"Write"::"MOST_ROWS"::"check_rows"::"check_place"::"tried"::"Machine"::"Noted"::"Watched"::"MOST_HOPPED"::"is_many"::"is_on"::"Hop"::"more"::"go_by_way"::"less_left"::"ask_put"::"haul"::"exchange"::"Copy"::"Fill"::"Seek"::"Match"::"Shift"::"Turn"::"MOST_CELLS"::"LEAVES"::"check_cells"::"is_leave"::"is_within"::"Store"::"_law_hand"::"_law_draw"::"_law_content"::"_law_cells"::"_law_leaves"::"_law_whole"::"_law_spot"::"_law_six"::"_law_spec"::"_law_deed"::"_law_long"::"_law_let"::"_law_reach"::"_law_fits"::"_law_barred"::"_law_step"::"_law_moved"::"_law_looked"::"_law_store"::"_law_boxes"::"_law_own"::"_law_watched"::"_law_go"::"_law_undo"::"_law_state"::"_law_stands"::"_law_twin"::"_law_messed"::"_law_turn"::[]
end My
open PySem PySem.W in
set_option maxHeartbeats 0 in
def My.HA (w:World)(os:OsState):My.runK treeTable My.pr w 11 (some (.ref 6)) 12 (My.Lg w.params os) (topStub My.pr)=some (My.S0 w.params os,⟨denote treeTable (.body (ac My.pr) (My.ji My.pr)),.body (ac My.pr) (My.ji My.pr),default,[My.MS]⟩):=by
  delta My.pr;rewrite[Fast.te2368527892694137696,Fast.te14364793385576792824]
  kernel_rfl
open PySem PySem.W in
set_option maxHeartbeats 0 in
def My.Ia (w:World)(os:OsState)(B:List Stmt):My.runK treeTable My.pr w 11 (some (.ref 6)) 3898 (My.S0 w.params os) (My.jD My.pr (((ac My.pr).drop 0).take 29++B) My.q0)=some (My.S1 w.params os,My.jD My.pr B My.q1):=by
  delta My.pr;rewrite[Fast.te2368527892694137696,Fast.te14364793385576792824]
  kernel_rfl
open PySem PySem.W in
set_option maxHeartbeats 0 in
def My.GC (w:World)(os:OsState)(B:List Stmt):My.runK treeTable My.pr w 11 (some (.ref 6)) 2329 (My.S1 w.params os) (My.jD My.pr (((ac My.pr).drop 29).take 12++B) My.q1)=some (My.S2 w.params os,My.jD My.pr B My.q2):=by
  delta My.pr;rewrite[Fast.te2368527892694137696,Fast.te14364793385576792824]
  kernel_rfl
open PySem PySem.W in
set_option maxHeartbeats 0 in
def My.Hu (w:World)(os:OsState)(B:List Stmt):My.runK treeTable My.pr w 11 (some (.ref 6)) 2246 (My.S2 w.params os) (My.jD My.pr (((ac My.pr).drop 41).take 18++B) My.q2)=some (My.S3 w.params os,My.jD My.pr B My.q3):=by
  delta My.pr;rewrite[Fast.te2368527892694137696,Fast.te14364793385576792824]
  kernel_rfl
open PySem PySem.W in
set_option maxHeartbeats 0 in
def My.Ik (w:World)(os:OsState)(B:List Stmt):My.runK treeTable My.pr w 11 (some (.ref 6)) 1554 (My.S3 w.params os) (My.jD My.pr (((ac My.pr).drop 59).take 37++B) My.q3)=some (My.S4 w.params os,My.jD My.pr B My.q4):=by
  delta My.pr;rewrite[Fast.te2368527892694137696,Fast.te14364793385576792824]
  kernel_rfl
open PySem PySem.W in
set_option maxHeartbeats 0 in
def My.KD:LeftO My.pr (My.rO My.pr) My.A4 (λs=>xlAt (My.rO My.pr) [] s&&recOk PySem.Challenge.rw_haulbell_k59_again_and_shared.row.records s) (λs=>My.Lr.map s.heap.get?) (λw=>(My.K0 w.params).map λp=>some p.2) 20232:=by
  refine My.wR (by kernel_rfl) rfl (λ_=>by kernel_rfl) (λ_=>by kernel_rfl) (λ_=>by kernel_rfl) λw os=>?_
  have d:denote treeTable (.body (ac My.pr) (My.ji My.pr))=My.CA My.pr (ac My.pr):=My.BJ (by kernel_rfl);have e:My.nE treeTable My.pr w 11 (some (.ref 6)) (12+(3898+(2329+(2246+(1554+(10193)))))) (My.Lg w.params os) (topStub My.pr)=My.nE treeTable My.pr w 11 (some (.ref 6)) 10193 (My.S4 w.params os) (My.jD My.pr ((ac My.pr).drop 96) My.q4):=by
    rw[My.cG (My.HA w os)];dsimp only;rw[d];show My.nE treeTable My.pr w 11 (some (.ref 6)) _ (My.S0 w.params os) (My.jD My.pr ((ac My.pr).drop 0) My.q0)=_;rw[show(ac My.pr).drop 0=((ac My.pr).drop 0).take 29++(ac My.pr).drop 29 from by
      rw[show(ac My.pr).drop 29=((ac My.pr).drop 0).drop 29 by rw[List.drop_drop],List.take_append_drop],My.cG (My.Ia w os _)]
    rw[show(ac My.pr).drop 29=((ac My.pr).drop 29).take 12++(ac My.pr).drop 41 from by
      rw[show(ac My.pr).drop 41=((ac My.pr).drop 29).drop 12 by rw[List.drop_drop],List.take_append_drop],My.cG (My.GC w os _)]
    rw[show(ac My.pr).drop 41=((ac My.pr).drop 41).take 18++(ac My.pr).drop 59 from by
      rw[show(ac My.pr).drop 59=((ac My.pr).drop 41).drop 18 by rw[List.drop_drop],List.take_append_drop],My.cG (My.Hu w os _)]
    rw[show(ac My.pr).drop 59=((ac My.pr).drop 59).take 37++(ac My.pr).drop 96 from by
      rw[show(ac My.pr).drop 96=((ac My.pr).drop 59).drop 37 by rw[List.drop_drop],List.take_append_drop],My.cG (My.Ik w os _)]
  rw[show(20232:Nat)=12+(3898+(2329+(2246+(1554+(10193))))) from rfl,e]
  delta My.pr;rewrite[Fast.te4187177175401517315,Fast.te5923862056798008813,Fast.te2368527892694137696,Fast.te14364793385576792824]
  kernel_rfl
set_option Elab.async false
open List(mem_range filterMap_cons mem_cons_self mem_cons_of_mem mem_cons mem_append mem_append_left getElem?_set_self getElem?_set_ne mem_append_right size_toArray any_eq_false length_cons map_cons length_map append_nil nodup_cons of_mem_zip length_take getElem?_append_right getElem?_map take_sublist mem_of_getElem? length_append length_replicate length_drop length_set all_cons any_cons reverse_cons replicate_succ flatten_cons append_assoc foldl_cons length_singleton nil_append find?_cons length_nil cons_append forIn_cons forIn_nil getElem?_eq_getElem getElem_mem drop_zero take_length lookup_cons not_mem_nil length_zip drop_eq_getElem_cons set_comm length_range length_reverse all_eq_true length_eq_zero_iff zip_cons_cons zip_append take_append_drop isEmpty_iff drop_length mem_singleton take_succ map_replicate map_append getElem?_eq_none map_reverse mem_reverse map_drop map_take)
@[reducible]def NU:Type:=Unit->PySem.Shared->Prop
@[reducible]def NV:Type:=PySem.Value->PySem.Shared->Prop
@[reducible]def NW:Type:=List (PySem.Addr×PySem.Obj)
@[reducible]def NX:Type:=PySem.Str->Option PySem.Value
namespace L2
open PySem PySem.Spec PyProof.Rows
@[reducible]def Key:=Sum Int Str
abbrev nU:Key->Value->Bool
 | .inl k,v=>Value.isInt k v
 | .inr x,v=>Value.isStrOf x v
abbrev LD (w:World):Key->Int
 | .inl k=>hashInt k
 | .inr x=>hashStr w x
def aM:∀ {k:Key}{v:Value},nU k v=true->(∃ i t,k=Sum.inl i/\v=Value.int i t)\/(∃ x t,k=Sum.inr x/\v=Value.str x t)
 | .inl i,v,h=>by
  obtain⟨t,e⟩:=Value.isInt_shape (k:=i) (v:=v) h;exact .inl ⟨i,t,rfl,e⟩
 | .inr x,v,h=>by
  obtain⟨t,e⟩:=Value.isStrOf_shape (x:=x) (v:=v) h;exact .inr ⟨x,t,rfl,e⟩
def wZ (i:Int)(t:Tok):nU (.inl i) (.int i t)=true:=by simp[nU,Value.isInt]
def yt (x:Str)(t:Tok):nU (.inr x) (.str x t)=true:=by simp[nU,Value.isStrOf]
def GR (a b:Int):decide ((Sum.inl a:Key)=Sum.inl b)=(a ==b):=by
 by_cases e:a=b
 .subst e;simp
 .have h:¬ (Sum.inl a:Key)=Sum.inl b:=λq=>e (Sum.inl.inj q)
  rw[decide_eq_false h];exact(beq_eq_false_iff_ne.mpr e).symm
def FT (a b:Str):decide ((Sum.inr a:Key)=Sum.inr b)=decide (a=b):=by
 by_cases e:a=b
 .subst e;simp
 .have h:¬ (Sum.inr a:Key)=Sum.inr b:=λq=>e (Sum.inr.inj q)
  rw[decide_eq_false h,decide_eq_false e]
def F5 (a:Int)(b:Str):decide ((Sum.inl a:Key)=Sum.inr b)=false:=decide_eq_false (λq=>nomatch q)
def FI (a:Str)(b:Int):decide ((Sum.inr a:Key)=Sum.inl b)=false:=decide_eq_false (λq=>nomatch q)
abbrev aA (prog:Program)(w:World):PySem.KeyKind prog w Key where
 is:=nU
 hash:=LD w
 inj:=λv a b ha hb=>by
  rcases aM ha with⟨i,t,rfl,rfl⟩|⟨x,t,rfl,rfl⟩
  .rcases aM hb with⟨j,u,rfl,e⟩|⟨y,u,rfl,e⟩
   .injection e with e1 _;rw[e1]
   .exact nomatch e
  .rcases aM hb with⟨j,u,rfl,e⟩|⟨y,u,rfl,e⟩
   .exact nomatch e
   .injection e with e1 _;rw[e1]
 byValue:=λk v h=>by
  rcases aM h with⟨i,t,rfl,rfl⟩|⟨x,t,rfl,rfl⟩<;>rfl
 pyHash:=λhv h=>by
  rcases aM hv with⟨i,t,rfl,rfl⟩|⟨x,t,rfl,rfl⟩
  .exact wpAny_pyHash_int h
  .exact wpAny_pyHash_str h
 eqBool:=λhu hv h=>by
  rcases aM hu with⟨i,t,rfl,rfl⟩|⟨x,t,rfl,rfl⟩
  .rcases aM hv with⟨j,u,rfl,rfl⟩|⟨y,u,rfl,rfl⟩
   .rw[GR]at h;exact wpAny_eqBool_int h
   .rw[F5]at h;exact SeqAt.EqAt.int_str i t y u _ _ _ _ h
  .rcases aM hv with⟨j,u,rfl,rfl⟩|⟨y,u,rfl,rfl⟩
   .rw[FI]at h;exact SeqAt.EqAt.str_int x t j u _ _ _ _ h
   .rw[FT]at h;exact wpAny_eqBool_str h
 «strs»:=λk x t v h=>by
  rcases aM h with⟨i,u,rfl,e⟩|⟨y,u,rfl,e⟩
  .exact nomatch e
  .injection e with e1 _
   subst e1;cases v<;>rfl
def si (prog:Program)(w:World)(i:Int)(t:Tok):(aA prog w).is (.inl i) (.int i t)=true:=wZ i t
def rK (prog:Program)(w:World)(x:Str)(t:Tok):(aA prog w).is (.inr x) (.str x t)=true:=yt x t
inductive V where
 |non|bl (b:Bool)|int (i:Int)|str (x:Str)|byt (b:Array UInt8)|flt (b:UInt64)|ref (a:Addr)|ty (n:String)
 deriving DecidableEq
abbrev RelV:V->Value->Prop
 | .non,u=>u=Value.none
 | .bl b,u=>u=Value.bool b
 | .int i,u=>∃ t,u=Value.int i t
 | .str x,u=>∃ t,u=Value.str x t
 | .byt b,u=>∃ t,u=Value.bytes b t
 | .flt b,u=>∃ t,u=Value.float b t
 | .ref a,u=>u=Value.ref a
 | .ty n,u=>u=Value.type n
@[reducible]def Vals:List V->List Value->Prop:=Paired RelV
variable {xs:List V}{us:List Value}
def Vals.length (r:Vals xs us):xs.length=us.length:=Paired.length r
def Vals.get:∀ {xs:List V}{us:List Value}{i:Nat}{x:V},Vals xs us->xs[i]? =some x->∃ u,us[i]? =some u/\RelV x u
 |_,_,_,_,.nil,e=>by simp at e
 |_,_,0,_,.cons r _,e=>by simp at e;subst e;exact⟨_,rfl,r⟩
 |_,_,i+1,x,.cons _ t,e=>by
  obtain⟨u,h1,h2⟩:=Vals.get (i:=i) (x:=x) t (by simpa using e);exact⟨u,by simpa using h1,h2⟩
variable {u:Value}
def Vals.set {x:V}(r:RelV x u):∀ {xs:List V}{us:List Value}(i:Nat),Vals xs us->Vals (xs.set i x) (us.set i u)
 |_,_,_,.nil=>.nil
 |_,_,0,.cons _ t=>.cons r t
 |_,_,i+1,.cons q t=>.cons q (Vals.set r i t)
def Vals.append:∀ {xs ys:List V}{us ws:List Value},Vals xs us->Vals ys ws->Vals (xs++ys) (us++ws)
 |_,_,_,_,.nil,s=>s
 |_,_,_,_,.cons r t,s=>.cons r (Vals.append t s)
def Vals.take:∀ {xs:List V}{us:List Value}(n:Nat),Vals xs us->Vals (xs.take n) (us.take n)
 |_,_,0,_=>.nil
 |_,_,_+1,.nil=>.nil
 |_,_,n+1,.cons r t=>.cons r (Vals.take n t)
def Vals.drop:∀ {xs:List V}{us:List Value}(n:Nat),Vals xs us->Vals (xs.drop n) (us.drop n)
 |_,_,0,r=>r
 |_,_,_+1,.nil=>.nil
 |_,_,n+1,.cons _ t=>Vals.drop n t
abbrev dq:Option V->Option Value->Prop
 |some v,some u=>RelV v u
 |none,none=>True
 |_,_=>False
abbrev KV {κ:Type}:List (κ×V)->List (κ×Value)->Prop:=Paired λ(p:κ×V) (q:κ×Value)=>p.1=q.1/\RelV p.2 q.2
abbrev kV:Key->V
 | .inl i=>.int i
 | .inr x=>.str x
inductive HO where
  |lst (xs:List V)
  |tup (xs:List V)
  |dK (kvs:List (Key×V))|dT (kvs:List (List Key×V))
  |set (S:Int->Bool) (n:Nat)
  |ins (C dx:Addr) (fs:List (Str×V))
  |own (x:Addr)
  |exc (C:Addr) (dx:Option Addr) (fs:List (Str×V)) (fr:Bool)
  |xd (fs:List (Str×V))
  |met (f x:Addr)
  |rng (lo hi:Int)
  |frz (o:Obj) (u:HO)
  |tbl (ps:Array Value)
  |ext (φ:Heap->Prop)
@[reducible]def Hp:=Addr->Option HO
abbrev upd (H:Hp)(a:Addr)(o:HO):Hp:=λb=>if b=a then some o else H b
variable {H:Hp}{a:Addr}{o:HO}
def aE:upd H a o a=some o:=by unfold upd;rw[if_pos rfl]
variable {b:Addr}
def aj (h:b≠a):upd H a o b=H b:=by unfold upd;rw[if_neg h]
def DH {u:HO}:upd (upd H a o) a u=upd H a u:=by
 funext b;unfold upd;split<;>rfl
def IS {u:HO}(h:H a=some o)(h':H b=some u)(d:o≠u):a≠b:=by
 intro e;subst e;rw[h]at h';exact d (Option.some.inj h')
def aX (h:H a=some o)(h':H b=none):a≠b:=by
 intro e;subst e;rw[h]at h';cases h'
section
variable (P:Program) (w:World)
abbrev aP (H:Hp)(h:Heap)(a:Addr):HO->Prop
 | .lst xs=>xs.length<=bv/\∃ (its:List Value) (n:Nat),Vals xs its/\h.get? a=some { cls:=.type "list",data:=.seq its.toArray n }
 | .tup xs=>xs.length<=bv/\∃ its:List Value,Vals xs its/\IsTup h a its.toArray
 | .dK kvs=>kvs.length<=bv/\(a ==sysModules)=false/\∃ vs,KV kvs vs/\h.DictOf (aA P w) a vs
 | .dT kvs=>kvs.length<=bv/\(a ==sysModules)=false/\∃ xs:List (List Key×Addr×Value),
   Paired (λ(p:List Key×V) (q:List Key×Addr×Value)=>p.1=q.1/\H q.2.1=some (.tup (p.1.map kV))/\RelV p.2 q.2.2) kvs xs/\
   ∃ o es ep,h.get? a=some o/\o.ExactDict/\o.data=.dict es ep/\es.toList=xs.map (entryOfKey (tupleKind (aA P w)))/\(xs.map (·.1)).Nodup
 | .set S n=>h.SetOf (intKind P w) a S n
 | .ins C dx fs=>H dx=some (.own a)/\fs.length<=1000/\dx≠a/\h.get? a=some (W.instObj C dx)/\
   ∃ mA,h.Ns1 dx mA/\(∀ f,dq (fs.lookup f) (mA f))/\PySem.Within mA (fs.map (·.1))
 | .exc C dx fs fr=>(∃ vs,h.get? a=some { cls:=.ref C,dict:=dx,data:=.fields vs }/\vs.size=6/\(fr=true->vs[1]? =some Value.none))/\
   ((dx=none/\fs=[])\/∃ d,dx=some d/\H d=some (.own a)/\fs.length<=1000/\d≠a/\∃ mA,h.Ns1 d mA/\(∀ f,dq (fs.lookup f) (mA f))/\PySem.Within mA (fs.map (·.1)))
 | .own _=>∃ o,h.get? a=some o
 | .xd fs=>∃ mA,h.Ns1 a mA/\∀ f,dq (fs.lookup f) (mA f)
 | .rng lo hi=>∃ t u v,h.get? a=some { cls:=.type "range",data:=.fields #[.int lo t,.int hi u,.int 1 v] }
 | .frz o u=>h.get? a=some o/\aP H h a u
 | .tbl ps=>h.get? a=some { cls:=.none,data:=.fields ps }
 | .met f x=>h.get? a=some (W.methodObj (.ref f) (.ref x))
 | .ext φ=>φ h/\(∃ o,h.get? a=some o)/\∀ h1 h2:Heap,φ h1->(∀ o,h1.get? a=some o->h2.get? a=some o)->φ h2
abbrev hE (H:Hp)(h:Heap):Prop:=∀ a o,H a=some o->aP P w H h a o
end
section
variable {P:Program}{w:World}{H H':Hp}{h h':Heap}{a:Addr}{o:HO}
def aP.lt (x:aP P w H h a o):a<h.objs.size:=by
 cases o with
 |lst xs=>obtain⟨_,_,_,_,e⟩:=x;exact v0 e
 |tup xs=>obtain⟨_,_,_,p⟩:=x;exact p.lt
 |dK kvs=>obtain⟨_,_,_,_,o,_,_,e,_⟩:=x;exact v0 e
 |dT kvs=>obtain⟨_,_,_,_,o,_,_,e,_⟩:=x;exact v0 e
 |set S n=>obtain⟨o,_,_,_,e,_⟩:=x;exact v0 e
 |ins C dx fs=>obtain⟨_,_,_,e,_⟩:=x;exact v0 e
 |exc C dx fs fr=>obtain⟨⟨_,e,_⟩,_⟩:=x;exact v0 e
 |own y=>obtain⟨_,e⟩:=x;exact v0 e
 |xd fs=>obtain⟨_,⟨_,_,_,e,_⟩,_⟩:=x;exact v0 e
 |rng lo hi=>obtain⟨_,_,_,e⟩:=x;exact v0 e
 |frz ob u=>obtain⟨e,_⟩:=x;exact v0 e
 |tbl ps=>exact v0 (show h.get? a=some _ from x)
 |met f y=>exact v0 (show h.get? a=some _ from x)
 |ext φ=>obtain⟨_,⟨_,e⟩,_⟩:=x;exact v0 e
def Paired.FU {α β:Type}{F G:α->β->Prop}:∀ {l₁:List α}{l₂:List β},Paired F l₁ l₂->(∀ a b,F a b->G a b)->Paired G l₁ l₂
 |_,_,.nil,_=>.nil
 |_,_,.cons r t,f=>.cons (f _ _ r) (Paired.FU t f)
def aP.kH (x:aP P w H h a o)(k:∀ b u,(b=a\/H b=some (.own a))->h.get? b=some u->h'.get? b=some u)
  (ho:∀ b,H b=some (.own a)->H' b=some (.own a)) (ht:∀ b xs,H b=some (.tup xs)->H' b=some (.tup xs)):aP P w H' h' a o:=by
 induction o with
 |lst xs=>obtain⟨z,its,n,r,e⟩:=x;exact⟨z,its,n,r,k _ _ (.inl rfl) e⟩
 |tup xs=>obtain⟨z,its,r,ob,e,c⟩:=x;exact⟨z,its,r,ob,k _ _ (.inl rfl) e,c⟩
 |dK kvs=>obtain⟨z,y,vs,r,ob,es,ep,e,c⟩:=x;exact⟨z,y,vs,r,ob,es,ep,k _ _ (.inl rfl) e,c⟩
 |dT kvs=>
  obtain⟨z,y,xs,r,ob,es,ep,e,c⟩:=x;exact⟨z,y,xs,Paired.FU r λp q z=>⟨z.1,ht _ _ z.2.1,z.2.2⟩,ob,es,ep,k _ _ (.inl rfl) e,c⟩
 |set S n=>obtain⟨ob,es,ep,t,e,c⟩:=x;exact⟨ob,es,ep,t,k _ _ (.inl rfl) e,c⟩
 |ins C dx fs=>
  obtain⟨d,z,ne,e,mA,⟨od,es,ep,e2,c⟩,r⟩:=x;exact⟨ho _ d,z,ne,k _ _ (.inl rfl) e,mA,⟨od,es,ep,k _ _ (.inr d) e2,c⟩,r⟩
 |exc C dx fs fr=>
  obtain⟨⟨vs,e,z⟩,q⟩:=x;refine⟨⟨vs,k _ _ (.inl rfl) e,z⟩,?_⟩;rcases q with q|⟨d,ed,d1,z1,ne,mA,⟨od,es,ep,e2,c⟩,r⟩
  .exact .inl q
  .exact .inr ⟨d,ed,ho _ d1,z1,ne,mA,⟨od,es,ep,k _ _ (.inr d1) e2,c⟩,r⟩
 |own y=>obtain⟨ob,e⟩:=x;exact⟨ob,k _ _ (.inl rfl) e⟩
 |xd fs=>obtain⟨mA,⟨od,es,ep,e,c⟩,r⟩:=x;exact⟨mA,⟨od,es,ep,k _ _ (.inl rfl) e,c⟩,r⟩
 |rng lo hi=>obtain⟨t,u,v,e⟩:=x;exact⟨t,u,v,k _ _ (.inl rfl) e⟩
 |frz ob u ih=>obtain⟨e,q⟩:=x;exact⟨k _ _ (.inl rfl) e,ih q⟩
 |tbl ps=>
  have e:h.get? a=some { cls:=.none,data:=.fields ps }:=x;show h'.get? a=some { cls:=.none,data:=.fields ps };exact k a _ (.inl rfl) e
 |met f y=>
  have e:h.get? a=some (W.methodObj (.ref f) (.ref y)):=x;show h'.get? a=some (W.methodObj (.ref f) (.ref y));exact k a _ (.inl rfl) e
 |ext φ=>obtain⟨p,⟨o,e⟩,st⟩:=x;exact⟨st _ _ p λo q=>k _ _ (.inl rfl) q,⟨o,k _ _ (.inl rfl) e⟩,st⟩
def hE.lt (x:hE P w H h)(e:H a=some o):a<h.objs.size:=(x a o e).lt
def hE.fresh (x:hE P w H h)(e:h.objs.size<=a):H a=none:=by
 cases q:H a with
 |none=>rfl
 |some u=>exact absurd (pi (x.lt q) e) (Nat.lt_irrefl _)
def hE.kept (x:hE P w H h)(k:∀ b u,h.get? b=some u->h'.get? b=some u):hE P w H h':=λa o e=>
 (x a o e).kH (λb u _ q=>k b u q) (λ_ q=>q) λ_ _ q=>q
def hE.laid (x:hE P w H h)(k:∀ b u,h.get? b=some u->h'.get? b=some u) (hp:h.objs.size<=a) (new:aP P w (upd H a o) h' a o):hE P w (upd H a o) h':=λb u e=>by
 have hn:=x.fresh hp
 by_cases hb:b=a
 .subst hb;rw[aE]at e;cases e;exact new
 .rw[aj hb]at e;exact(x b u e).kH (λc v _ q=>k c v q) (λc q=>by rw[aj (aX q hn)];exact q) λc xs q=>by rw[aj (aX q hn)];exact q
end
abbrev Rd (H:Hp)(a:Addr)(u:HO):Prop:=H a=some u\/∃ o,H a=some (.frz o u)
variable {P:Program}{w:World}{h:Heap}
def Rd.ok {u:HO}(r:Rd H a u)(x:hE P w H h):aP P w H h a u:=by
 rcases r with r|⟨o,r⟩
 .exact x a u r
 .obtain⟨_,q⟩:=x a _ r;exact q
abbrev Jn:Option HO->Prop
 |some (.lst _)=>True
 |some (.dK _)=>True
 |some (.dT _)=>True
 |some (.set _ _)=>True
 |some (.ins _ _ _)=>True
 |some (.exc _ _ _ _)=>True
 |some (.ext _)=>True
 |_=>False
section
variable {P:Program}{w:World}{H:Hp}{h h':Heap}{x e:Addr}{o':HO}
def hE.write (ok:hE P w H h)(mu:Jn (H x))(he:e=x\/H e=some (.own x))(k:∀ b u,b≠e->h.get? b=some u->h'.get? b=some u) (heo:∃ u,h'.get? e=some u)
  (new:aP P w (upd H x o') h' x o'):hE P w (upd H x o') h':=λb u q=>by
 have nown:∀ c y,H c=some (.own y)->c≠x:=λc y r z=>by subst z;rw[r]at mu;exact mu
 have ntup:∀ c xs,H c=some (.tup xs)->c≠x:=λc xs r z=>by subst z;rw[r]at mu;exact mu
 by_cases hb:b=x
 .subst hb;rw[aE]at q;cases q;exact new
 .rw[aj hb]at q
  by_cases hbe:b=e
  .have q':H b=some (.own x):=by
    rcases he with z|z
    .exact absurd (hbe.trans z) hb
    .rw[hbe];exact z
   rw[q]at q';cases q';obtain⟨v,hv⟩:=heo;exact⟨v,by rw[hbe];exact hv⟩
  .refine(ok b u q).kH (λc v hc r=>k c v ?_ r) (λc r=>by rw[aj (nown c b r)];exact r) λc xs r=>by rw[aj (ntup c xs r)];exact r
   rcases hc with rfl|hc
   .exact hbe
   .rintro rfl;rcases he with z|z
    .exact nown c b hc z
    .rw[hc]at z;cases z;exact hb rfl
end
structure Un (fs ex:List Addr) (H H':Hp) (h h':Heap):Prop where
 keep:∀ b o,h.get? b=some o->H b=none->b ∉ fs->b ∉ ex->h'.get? b=some o
 slot:∀ b o,h.get? b=some o->H b=none->b ∈ fs->b ∉ ex->∃ sl,h'.get? b=some { o with slots:=sl }
 free:∀ b o,h.get? b=some o->H b=none->b ∉ ex->H' b=none
 there:∀ b o,h.get? b=some o->b ∉ ex->∃ o',h'.get? b=some o'
 tups:∀ b xs,H b=some (.tup xs)->H' b=some (.tup xs)
 frzs:∀ b o u,H b=some (.frz o u)->H' b=some (.frz o u)
 tbls:∀ b ps,H b=some (.tbl ps)->∃ more,H' b=some (.tbl (ps++more))
section
variable {fs fs' ex ex':List Addr}{H H1 H2:Hp}{h h1 h2 h':Heap}{a x e:Addr}{o:HO}
def Un.any (u:Un fs ex H H1 h h1){ob:Obj}(q:h.get? b=some ob)(n:H b=none)(hx:b ∉ ex):∃ sl,h1.get? b=some { ob with slots:=sl }:=by
 by_cases hb:b ∈ fs
 .exact u.slot b ob q n hb hx
 .exact⟨ob.slots,u.keep b ob q n hb hx⟩
def Un.kept (k:∀ b u,h.get? b=some u->h'.get? b=some u):Un fs ex H H h h':=
 ⟨λb ob q _ _ _=>k b ob q,λb ob q _ _ _=>⟨ob.slots,k b ob q⟩,λ_ _ _ n _=>n,λb ob q _=>⟨ob,k b ob q⟩,λ_ _ q=>q,λ_ _ _ q=>q,λ_ ps q=>⟨#[],by rw[q];simp⟩⟩
def Un.refl:Un fs ex H H h h:=Un.kept λ_ _ q=>q
def Un.laid (k:∀ b u,h.get? b=some u->h'.get? b=some u) (hp:h.objs.size<=a) (hn:H a=none):Un fs ex H (upd H a o) h h' where
 keep:=λb u q _ _ _=>k b u q
 slot:=λb u q _ _ _=>⟨u.slots,k b u q⟩
 free:=λb u q n _=>by rw[aj (sn (pi (v0 q) hp))];exact n
 there:=λb u q _=>⟨u,k b u q⟩
 tups:=λb xs q=>by rw[aj (aX q hn)];exact q
 frzs:=λb u xs q=>by rw[aj (aX q hn)];exact q
 tbls:=λb ps q=>⟨#[],by rw[aj (aX q hn),q];simp⟩
def Un.write (mu:Jn (H x))(he:e=x\/H e=some (.own x))(k:∀ b u,b≠e->h.get? b=some u->h'.get? b=some u) (heo:∃ u,h'.get? e=some u):Un fs ex H (upd H x o) h h':=by
 have hx:∀ b,H b=none->b≠x:=λb n z=>by subst z;rw[n]at mu;exact mu
 have hb:∀ b,H b=none->b≠e:=λb n z=>by
  subst z;rcases he with r|r
  .exact hx b n r
  .rw[n]at r;cases r
 have hm:∀ b u,H b=some u->¬ Jn (some u)->b≠x:=λb u q nm z=>by subst z;rw[q]at mu;exact nm mu
 refine⟨λb u q n _ _=>k b u (hb b n) q,λb u q n _ _=>⟨u.slots,k b u (hb b n) q⟩,λb u q n _=>by rw[aj (hx b n)];exact n,λb u q _=>?_,
  λb xs q=>by rw[aj (hm b _ q λz=>z)];exact q,λb u xs q=>by rw[aj (hm b _ q λz=>z)];exact q,λb ps q=>⟨#[],by rw[aj (hm b _ q λz=>z),q];simp⟩⟩
 by_cases hbe:b=e
 .subst hbe;exact heo
 .exact⟨u,k b u hbe q⟩
end
abbrev EL (h:Heap)(H:Hp):List Addr:=(List.range h.objs.size).filter λa=>(H a).isSome
abbrev pw (h:Heap)(H:Hp):Heap:=W.hideAll h (EL h H)
def xi (h:Heap)(H:Hp):(pw h H).objs.size=h.objs.size:=W.hideAll_size _ _
def zF {o:Obj}(e:h.get? b=some o)(n:H b=none):(pw h H).get? b=some o:=
 W.hideAll_get _ e λhm=>by
  have q:(H b).isSome=true:=(List.mem_filter.mp hm).2;rw[n]at q;simp at q
def CD {o:Obj}(e:(pw h H).get? b=some o):h.get? b=some o/\H b=none:=by
 have e':h.get? b=some o:=W.of_hideAll (EL h H) e;refine⟨e',?_⟩;cases q:H b with
 |none=>rfl
 |some x=>
  have hm:b ∈ EL h H:=List.mem_filter.mpr ⟨mem_range.mpr (v0 e'),by simp[q]⟩;have z:(pw h H).get? b=none:=W.hideAll_none (EL h H) hm;rw[z]at e;cases e
structure Mod (K:W.Frag) (mg:NX) (base:Heap):Prop where
 kin:K.In base
 glob:base.Ns mainGlobals mg
 blt:∃ mb,base.Ns builtinsNs mb/\∀ x:Str,x≠"__name__"->mb x=bootBuiltins x
 nolimit:base.NoLimit
/-- the context:a def's body (or a comprehension's block) running. base:fixed through the whole law;s₀,H₀:the entry;outer:the frames whose slots others may change (a def's callers);stack:all frames that run;
  ex:iterators that were made ahead of the entry and are walked here (a comprehension's);fn:the names whose cells were made at the entry (a def:all;a comprehension's block:its own);calm:not within an except bS;pn:Y that every state bears;xe:what is wanted of an exception that leaves the code -/
structure Cx where
 prog:Program
 w:World
 K:W.Frag
 mg:Str->Option Value
 base:Heap
 A:Around
 N:List Str
 s₀:Shared
 H₀:Hp
 env:Env
 outer:List Env
 stack:List Env
 ex:List Addr
 fn:Str->Bool
 calm:Bool
 pn:List (Addr×Obj)
 xe:Value->Shared->Prop
abbrev qh (l:List Env):List Addr:=l.filterMap (·.frame)
noncomputable abbrev Cx.fs (X:Cx):List Addr:=qh X.outer
abbrev Lh (sc:Scope)(x:Str):Prop:=sc.names.lookup x=some .local\/sc.names.lookup x=some .cell\/sc.names.lookup x=some .free
abbrev Loc (sc:Scope)(x:Str):Prop:=sc.names.lookup x=some .local\/sc.names.lookup x=some .cell
abbrev Look (env:Env)(h:Heap)(m:NX)(x:Str)(u:Value):Prop:=
 (env.kindOf x=some .local/\m x=some u)\/((env.kindOf x=some .cell\/env.kindOf x=some .free)/\∃ c,env.cells.lookup x=some c/\h.IsCell c (some u))
structure Cx.Ok (X:Cx):Prop where
 mod:Mod X.K X.mg X.base
 kind:X.env.scope.kind=.function
 glob:X.env.globals=mainGlobals
 blt:X.env.builtins=builtinsNs
 above:X.s₀.heap.objs.size<=X.env.locals
 inj:∀ x y c,X.env.cells.lookup x=some c->X.env.cells.lookup y=some c->x=y
 has:∀ x,(X.env.kindOf x=some .cell\/X.env.kindOf x=some .free)->∃ c,X.env.cells.lookup x=some c
 cab:∀ x c,X.fn x=true->X.env.cells.lookup x=some c->X.s₀.heap.objs.size<=c
 hd:X.calm=true->X.A.handled=none
 frames:X.A.frames=some X.stack
 stk:X.stack=X.outer\/(X.stack=X.env::X.outer/\X.env.frame=some X.env.locals)
 exf:∀ b ∈ X.ex,b≠X.env.locals/\∀ x c,X.env.cells.lookup x=some c->c≠b
 bs:∀ b o,X.base.get? b=some o->X.s₀.heap.get? b=some o/\X.H₀ b=none
 bsz:X.base.objs.size<=X.s₀.heap.objs.size
 noex:∀ b o,X.base.get? b=some o->b ∉ X.ex
 exfs:∀ b ∈ X.ex,b ∉ X.fs
 kO:X.s₀.heap.FunFrames X.base X.outer
 frf:∀ b ∈ X.fs,X.H₀ b=none
structure Inv (X:Cx) (Y:NW) (U:List (Option V)) (H:Hp) (s:Shared):Prop where
 ok:X.Ok
 os:s.os=X.s₀.os
 bare:AllBare s.gens
 base:Un X.fs X.ex X.H₀ H X.s₀.heap s.heap
 loc:∃ m,s.heap.Ns X.env.locals m/\∀ (i:Nat) (x:Str) (v:V),X.N[i]? =some x->U[i]? =some (some v)->Lh X.env.scope x->∃ u,RelV v u/\Look X.env s.heap m x u
 cell:∀ x c,X.env.cells.lookup x=some c->∃ v,s.heap.IsCell c v
 free:H X.env.locals=none
 freeC:∀ x c,X.env.cells.lookup x=some c->H c=none
 pin:∀ p ∈ X.pn++Y,s.heap.get? p.1=some p.2/\H p.1=none/\p.1≠X.env.locals/\p.1 ∉ X.fs/\∀ v,p.2.data≠.cell v
 hok:hE X.prog X.w H s.heap
 len:U.length=X.N.length
variable {x:Str}{g':Array GenState}{ch:List Addr}{i:Nat}{M:Model}{A:Around}{E:NV}{v:V}
section
variable {X:Cx}{Y:NW}{U:List (Option V)}{H H':Hp}{s:Shared}{h':Heap}
def Cx.Ok.LM (ok:X.Ok){o:Obj}(e:X.base.get? b=some o):b ∉ X.fs:=λhb=>by
 have:=(ok.kO.mem hb).1;rw[e]at this;cases this
def Inv.bs (I:Inv X Y U H s):∀ b o,X.base.get? b=some o->s.heap.get? b=some o/\H b=none:=λb o e=>
 ⟨I.base.keep b o (I.ok.bs b o e).1 (I.ok.bs b o e).2 (I.ok.LM e) (I.ok.noex b o e),I.base.free b o (I.ok.bs b o e).1 (I.ok.bs b o e).2 (I.ok.noex b o e)⟩
def Inv.bk (I:Inv X Y U H s):∀ b o,X.base.get? b=some o->s.heap.get? b=some o:=λb o e=>(I.bs b o e).1
def Inv.mod (I:Inv X Y U H s):Mod X.K X.mg X.base:=I.ok.mod
def Inv.bV (I:Inv X Y U H s):X.K.In s.heap:=I.ok.mod.kin.keeps I.bk
def Inv.lt (I:Inv X Y U H s):X.env.locals<s.heap.objs.size:=let⟨_,hn,_⟩:=I.loc;hn.lt
def Inv.sz (I:Inv X Y U H s):X.s₀.heap.objs.size<=s.heap.objs.size:=Nat.le_trans I.ok.above (Nat.le_of_lt I.lt)
def Inv.Mv (I:Inv X Y U H s)(h:s.heap.objs.size<=a):a ∉ X.fs:=λhb=>by
 obtain⟨_,o,ho,_⟩:=I.ok.kO.mem hb;exact absurd (pi (v0 ho) (Nat.le_trans I.sz h)) (Nat.lt_irrefl _)
def Inv.zJ (I:Inv X Y U H s):∀ x c,X.env.cells.lookup x=some c->c≠X.env.locals:=λx c e z=>by
 obtain⟨v,o,ho,hd⟩:=I.cell x c e;obtain⟨m,⟨o',es,ep,ho',hd',_⟩,_⟩:=I.loc;rw[z,ho']at ho;cases ho;rw[hd']at hd;cases hd
def Inv.kO (I:Inv X Y U H s):s.heap.FunFrames X.base X.outer:=by
 have all:∀ (l:List Env),(∀ b ∈ qh l,b ∈ X.fs)->X.s₀.heap.FunFrames X.base l->s.heap.FunFrames X.base l:=by
  intro l
  induction l with
  |nil=>intro _ _;trivial
  |cons env r ih=>
   intro hs hl;obtain⟨hk,⟨L,o,hf,hn,ho,hd⟩,hr⟩:=hl;have hL:L ∈ X.fs:=hs L (by unfold qh;rw[filterMap_cons,hf];exact mo);obtain⟨sl,e⟩:=I.base.slot L o ho (I.ok.frf L hL) hL λz=>I.ok.exfs L z hL
   exact⟨hk,⟨L,_,hf,hn,e,hd⟩,ih (λb hb=>hs b (by unfold qh;rw[filterMap_cons,hf];exact dL _ hb)) hr⟩
 exact all X.outer (λ_ hb=>hb) I.ok.kO
def Inv.stack (I:Inv X Y U H s):s.heap.FunFrames X.base X.stack:=by
 rcases I.ok.stk with e|⟨e,hf⟩
 .rw[e];exact I.kO
 .rw[e];obtain⟨m,hn,_⟩:=I.loc;refine .cons (by rw[I.ok.kind];decide) hf hn ?_ I.kO;exact Heap.get?_none_of_le (Nat.le_trans I.ok.bsz I.ok.above)
def Inv.jy (I:Inv X Y U H s):∀ b ∈ qh X.stack,b ∈ X.env.locals::X.fs:=λb hb=>by
 rcases I.ok.stk with e|⟨e,hf⟩
 .rw[e]at hb;exact dL _ hb
 .rw[e]at hb;unfold qh at hb;rw[filterMap_cons,hf]at hb;exact hb
def Inv.qz (I:Inv X Y U H s):∀ b ∈ qh X.stack,H b=none:=λb hb=>by
 rcases nw.mp (I.jy b hb) with e|hb
 .rw[e];exact I.free
 .obtain⟨_,o,ho,_⟩:=I.ok.kO.mem hb;exact I.base.free b o ho (I.ok.frf b hb) λz=>I.ok.exfs b z hb
def Inv.step {t':Nat}{d':Drawn}(I:Inv X Y U H s)
  (hch:∀ b ∈ ch,(b ∈ X.ex\/X.s₀.heap.objs.size<=b)/\b≠X.env.locals/\(∀ x c,X.env.cells.lookup x=some c->c≠b)/\∀ p ∈ X.pn++Y,p.1≠b)
  (keep:∀ b o,b≠X.env.locals->b ∉ X.fs->b ∉ ch->s.heap.get? b=some o->H b=none->h'.get? b=some o)
  (slot:∀ b o,b≠X.env.locals->b ∈ X.fs->b ∉ ch->s.heap.get? b=some o->H b=none->∃ sl,h'.get? b=some { o with slots:=sl }) (free:∀ b o,b ∉ ch->s.heap.get? b=some o->H b=none->H' b=none)
  (there:∀ b o,b ∉ ch->s.heap.get? b=some o->∃ o',h'.get? b=some o')
  (tups:∀ b xs,H b=some (.tup xs)->H' b=some (.tup xs)) (frzs:∀ b o u,H b=some (.frz o u)->H' b=some (.frz o u)) (tbls:∀ b ps,H b=some (.tbl ps)->∃ more,H' b=some (.tbl (ps++more)))
  (ns:∀ m,s.heap.Ns X.env.locals m->h'.Ns X.env.locals m) (hok:hE X.prog X.w H' h') (hg:AllBare g'):
  Inv X Y U H' { s with heap:=h',gens:=g',drawn:=d',toks:=t' }:=by
 have neL:∀ b o,X.s₀.heap.get? b=some o->b≠X.env.locals:=λb o e=>sn (pi (v0 e) I.ok.above)
 have neC:∀ b o,X.s₀.heap.get? b=some o->b ∉ X.ex->b ∉ ch:=λb o e hx hb=>by
  rcases(hch b hb).1 with z|z
  .exact hx z
  .exact absurd (pi (v0 e) z) (Nat.lt_irrefl _)
 have cellK:∀ x c,X.env.cells.lookup x=some c->∀ v,s.heap.IsCell c v->h'.IsCell c v:=λx c e v ⟨o,ho,hd⟩=>by
  have nch:c ∉ ch:=λz=>(hch c z).2.2.1 x c e rfl
  by_cases hc:c ∈ X.fs
  .obtain⟨sl,q⟩:=slot c o (I.zJ x c e) hc nch ho (I.freeC x c e);exact⟨_,q,hd⟩
  .exact⟨o,keep c o (I.zJ x c e) hc nch ho (I.freeC x c e),hd⟩
 refine⟨I.ok,I.os,hg,⟨λb o e n hb hx=>?_,λb o e n hb hx=>?_,λb o e n hx=>?_,λb o e hx=>?_,λb xs e=>tups b xs (I.base.tups b xs e),λb o xs e=>frzs b o xs (I.base.frzs b o xs e),λb ps e=>?_⟩,?_,λx c e=>?_,?_,λx c e=>?_,λp hp=>?_,hok,I.len⟩
 .exact keep b o (neL b o e) hb (neC b o e hx) (I.base.keep b o e n hb hx) (I.base.free b o e n hx)
 .obtain⟨sl,e1⟩:=I.base.slot b o e n hb hx;obtain⟨sl',e2⟩:=slot b _ (neL b o e) hb (neC b o e hx) e1 (I.base.free b o e n hx);exact⟨sl',e2⟩
 .obtain⟨o',e1⟩:=I.base.there b o e hx;exact free b o' (neC b o e hx) e1 (I.base.free b o e n hx)
 .obtain⟨o',e1⟩:=I.base.there b o e hx;exact there b o' (neC b o e hx) e1
 .obtain⟨m1,e1⟩:=I.base.tbls b ps e;obtain⟨m2,e2⟩:=tbls b _ e1;exact⟨m1++m2,by rw[e2,Array.append_assoc]⟩
 .obtain⟨m,hn,hl⟩:=I.loc;refine⟨m,ns m hn,λi x v e1 e2 e3=>?_⟩;obtain⟨u,r,l⟩:=hl i x v e1 e2 e3;refine⟨u,r,?_⟩;rcases l with l|⟨k,c,e,z⟩
  .exact .inl l
  .exact .inr ⟨k,c,e,cellK x c e _ z⟩
 .obtain⟨v,z⟩:=I.cell x c e;exact⟨v,cellK x c e v z⟩
 .obtain⟨m,⟨o,_,_,ho,_⟩,_⟩:=I.loc;exact free _ o (λz=>(hch _ z).2.1 rfl) ho I.free
 .obtain⟨v,o,ho,hd⟩:=I.cell x c e;exact free c o (λz=>(hch c z).2.2.1 x c e rfl) ho (I.freeC x c e)
 .obtain⟨e,n,ne,nf,d⟩:=I.pin p hp;have nch:p.1 ∉ ch:=λz=>(hch p.1 z).2.2.2 p hp rfl
  exact⟨keep p.1 p.2 ne nf nch e n,free p.1 p.2 nch e n,ne,nf,d⟩
def Inv.un {t':Nat}(I:Inv X Y U H s)(u:Un X.fs [] H H' s.heap h')(hok:hE X.prog X.w H' h'):Inv X Y U H' { s with heap:=h',toks:=t' }:=by
 obtain⟨m,⟨o,es,ep,ho,r⟩,_⟩:=id I.loc;obtain⟨sl,hL⟩:=u.any ho I.free (by simp);exact I.step (g':=s.gens) (d':=s.drawn) (ch:=[]) (λ_ z=>nomatch z) (λb o _ hb _ e n=>u.keep b o e n hb (by simp)) (λb o _ hb _ e n=>u.slot b o e n hb (by simp)) (λb o _ e n=>u.free b o e n (by simp)) (λb o _ e=>u.there b o e (by simp)) u.tups u.frzs u.tbls (λm' hm=>by
  obtain⟨o',es',ep',ho',r'⟩:=hm;rw[ho]at ho';cases ho';exact⟨_,es',ep',hL,r'⟩) hok I.bare
def Inv.call {t':Nat}{d':Drawn}(I:Inv X Y U H s)(u:Un (qh X.stack) ch H H' s.heap h')(hok:hE X.prog X.w H' h')(hg:AllBare g')
  (hch:∀ b ∈ ch,(b ∈ X.ex\/X.s₀.heap.objs.size<=b)/\b≠X.env.locals/\(∀ x c,X.env.cells.lookup x=some c->c≠b)/\∀ p ∈ X.pn++Y,p.1≠b):
  Inv X Y U H' { s with heap:=h',gens:=g',drawn:=d',toks:=t' }:=by
 obtain⟨m,⟨o,es,ep,ho,r⟩,_⟩:=id I.loc;obtain⟨sl,hL⟩:=u.any ho I.free λz=>(hch _ z).2.1 rfl
 exact I.step (ch:=ch) hch (λb o hL hb hc e n=>u.keep b o e n (λz=>(nw.mp (I.jy b z)).elim hL hb) hc) (λb o _ _ hc e n=>u.any e n hc) (λb o hc e n=>u.free b o e n hc) (λb o hc e=>u.there b o e hc) u.tups u.frzs u.tbls (λm' hm=>by
  obtain⟨o',es',ep',ho',r'⟩:=hm;rw[ho]at ho';cases ho';exact⟨_,es',ep',hL,r'⟩) hok hg
def Inv.turned {t':Nat}{it:Addr}(I:Inv X Y U H s)(k:∀ b o,b≠it->s.heap.get? b=some o->h'.get? b=some o) (hn:H it=none) (hL:it≠X.env.locals)
  (h1:it ∈ X.ex\/X.s₀.heap.objs.size<=it) (h2:∀ x c,X.env.cells.lookup x=some c->c≠it) (h3:∀ p ∈ X.pn++Y,p.1≠it):Inv X Y U H { s with heap:=h',toks:=t' }:=by
 have nit:∀ b u,H b=some u->b≠it:=λb u e z=>by rw[z,hn]at e;cases e
 refine I.step (g':=s.gens) (d':=s.drawn) (ch:=[it]) (λb hb=>?_) (λb o _ _ hc e _=>k b o (λz=>hc (by simp[z])) e) (λb o _ _ hc e _=>⟨o.slots,k b o (λz=>hc (by simp[z])) e⟩) (λ_ _ _ _ n=>n)
  (λb o hc e=>⟨o,k b o (λz=>hc (by simp[z])) e⟩) (λ_ _ e=>e) (λ_ _ _ e=>e) (λb ps e=>⟨#[],by rw[e];simp⟩) (λm hm=>?_) (λb u e=>?_) I.bare
 .have e:b=it:=by simpa using hb
  subst e;exact⟨h1,hL,h2,h3⟩
 .obtain⟨o,es,ep,ho,r⟩:=hm;exact⟨o,es,ep,k _ o (Ne.symm hL) ho,r⟩
 .refine(I.hok b u e).kH (λc v hc q=>k c v ?_ q) (λ_ q=>q) λ_ _ q=>q
  rcases hc with z|z
  .rw[z];exact nit b u e
  .exact nit c _ z
def Inv.tok (I:Inv X Y U H s)(t:Nat):Inv X Y U H { s with toks:=t }:=I.un (h':=s.heap) (t':=t) Un.refl I.hok
def Inv.kept {t':Nat}(I:Inv X Y U H s)(k:∀ b u,s.heap.get? b=some u->h'.get? b=some u):Inv X Y U H { s with heap:=h',toks:=t' }:=I.un (Un.kept k) (I.hok.kept k)
def Inv.laid {t':Nat}(I:Inv X Y U H s)(k:∀ b u,s.heap.get? b=some u->h'.get? b=some u) (hp:s.heap.objs.size<=a) (new:aP X.prog X.w (upd H a o) h' a o):
  Inv X Y U (upd H a o) { s with heap:=h',toks:=t' }:=I.un (Un.laid k hp (I.hok.fresh hp)) (I.hok.laid k hp new)
def Inv.write {x e:Addr}{t':Nat}(I:Inv X Y U H s)(mu:Jn (H x))(he:e=x\/H e=some (.own x))(k:∀ b u,b≠e->s.heap.get? b=some u->h'.get? b=some u) (heo:∃ u,h'.get? e=some u)
  (new:aP X.prog X.w (upd H x o) h' x o):Inv X Y U (upd H x o) { s with heap:=h',toks:=t' }:=I.un (Un.write mu he k heo) (I.hok.write mu he k heo new)
def Inv.pF {pins':NW}(I:Inv X Y U H s)(h:∀ p ∈ pins',s.heap.get? p.1=some p.2/\H p.1=none/\p.1≠X.env.locals/\p.1 ∉ X.fs/\∀ v,p.2.data≠.cell v):Inv X pins' U H s:=
 ⟨I.ok,I.os,I.bare,I.base,I.loc,I.cell,I.free,I.freeC,λp hp=>(mem_append.mp hp).elim (λz=>I.pin p (mem_append_left _ z)) (h p),I.hok,I.len⟩
def ml {N:List Str}(hN:N.Nodup){j:Nat}(a:N[i]? =some x)(b:N[j]? =some x):i=j:=by
 obtain⟨h1,e1⟩:=ul.mp a;obtain⟨h2,e2⟩:=ul.mp b;exact(List.getElem_inj hN).mp (e1.trans e2.symm)
variable {Q:NU}
def oH (I:Inv X Y U H s)(hN:X.N.Nodup)(hi:X.N[i]? =some x)(hx:Loc X.env.scope x)(r:RelV v u)
  (h:∀ s',Inv X Y (U.set i (some v)) H s'->(∃ a,Heap.SameBut a s.heap s'.heap/\(a=X.env.locals\/X.env.cells.lookup x=some a))->Q () s') (hf:X.fn x=true\/X.env.scope.names.lookup x=some .local:=by first|exact .inl rfl|exact .inr rfl|assumption):wpAny M A (storeName X.env x u) Q E s:=by
 obtain⟨m,hn,hl⟩:=id I.loc;have hcls:(X.env.scope.kind ==.class||(X.env.scope.kind ==.module&&X.env.locals != X.env.globals))=false:=by rw[I.ok.kind];rfl
 have hiσ:i<U.length:=by rw[I.len];exact(ul.mp hi).1
 have zJ:=I.zJ;have tracked:∀ {a:Addr}{h':Heap},(∃ o,s.heap.get? a=some o/\H a=none)->Heap.SameBut a s.heap h'->hE X.prog X.w H h':=λ{a h'} ha hs b ob e=>by
  obtain⟨_,_,hfree⟩:=ha;refine(I.hok b ob e).kH (λc w' hc q=>(hs.2 c ?_).trans q) (λ_ q=>q) λ_ _ q=>q
  rintro rfl;rcases hc with rfl|hc
  .rw[hfree]at e;cases e
  .rw[hfree]at hc;cases hc
 rcases hx with hk|hk
 .refine wpAny_storeName_local hk hn (λh' hn' hs=>?_) hcls;obtain⟨oL,_,_,hoL,_⟩:=id hn;refine h _ ⟨I.ok,I.os,I.bare,⟨λb o e n hb hx=>?_,λb o e n hb hx=>?_,I.base.free,λb o e hx=>?_,I.base.tups,I.base.frzs,I.base.tbls⟩,⟨_,hn',λj y v' e1 e2 e3=>?_⟩,λy c e=>?_,I.free,I.freeC,λp hp=>?_,tracked ⟨oL,hoL,I.free⟩ hs,by simpa using I.len⟩ ⟨_,hs,.inl rfl⟩
  .exact(hs.2 b (sn (pi (v0 e) I.ok.above))).trans (I.base.keep b o e n hb hx)
  .obtain⟨sl,e1⟩:=I.base.slot b o e n hb hx;exact⟨sl,(hs.2 b (sn (pi (v0 e) I.ok.above))).trans e1⟩
  .obtain⟨o',e1⟩:=I.base.there b o e hx;exact⟨o',(hs.2 b (sn (pi (v0 e) I.ok.above))).trans e1⟩
  .by_cases hj:j=i
   .subst hj;rw[hi]at e1;cases e1;rw[getElem?_set_self hiσ]at e2;cases e2;exact⟨u,r,.inl ⟨hk,by simp⟩⟩
   .rw[getElem?_set_ne (Ne.symm hj)]at e2;obtain⟨u',r',q⟩:=hl j y v' e1 e2 e3;refine⟨u',r',?_⟩;rcases q with⟨k,e⟩|⟨k,c,e,z⟩
    .refine .inl ⟨k,?_⟩;have:y≠x:=λe=>hj (ml hN e1 (e▸hi))
     simp[this,e]
    .exact .inr ⟨k,c,e,z.sameBut hs (zJ y c e)⟩
  .obtain⟨w',z⟩:=I.cell y c e;exact⟨w',z.sameBut hs (zJ y c e)⟩
  .obtain⟨e,n,ne,nf,d⟩:=I.pin p hp;exact⟨(hs.2 p.1 ne).trans e,n,ne,nf,d⟩
 .have hfn:X.fn x=true:=by
   rcases hf with z|z
   .exact z
   .rw[z]at hk;cases hk
  obtain⟨c,hc⟩:=I.ok.has x (.inl hk);obtain⟨w',z⟩:=I.cell x c hc;refine wpAny_storeName_cell I.ok.kind hk hc z (λh' hc' hs=>?_);obtain⟨oc,hoc,hocd⟩:=id z;refine h { s with heap:=h' } ⟨I.ok,I.os,I.bare,⟨λb o e n hb hx=>?_,λb o e n hb hx=>?_,I.base.free,λb o e hx=>?_,I.base.tups,I.base.frzs,I.base.tbls⟩,⟨m,hn.sameBut hs (Ne.symm (zJ x c hc)),λj y v' e1 e2 e3=>?_⟩,λy c' e=>?_,I.free,I.freeC,λp hp=>?_,tracked ⟨oc,hoc,I.freeC x c hc⟩ hs,by simpa using I.len⟩ ⟨c,hs,.inr hc⟩
  .exact(hs.2 b (sn (pi (v0 e) (I.ok.cab x c hfn hc)))).trans (I.base.keep b o e n hb hx)
  .obtain⟨sl,e1⟩:=I.base.slot b o e n hb hx;exact⟨sl,(hs.2 b (sn (pi (v0 e) (I.ok.cab x c hfn hc)))).trans e1⟩
  .obtain⟨o',e1⟩:=I.base.there b o e hx;exact⟨o',(hs.2 b (sn (pi (v0 e) (I.ok.cab x c hfn hc)))).trans e1⟩
  .by_cases hj:j=i
   .subst hj;rw[hi]at e1;cases e1;rw[getElem?_set_self hiσ]at e2;cases e2;exact⟨u,r,.inr ⟨.inl hk,c,hc,hc'⟩⟩
   .rw[getElem?_set_ne (Ne.symm hj)]at e2;obtain⟨u',r',q⟩:=hl j y v' e1 e2 e3;refine⟨u',r',?_⟩;rcases q with q|⟨k,c',e,z'⟩
    .exact .inl q
    .refine .inr ⟨k,c',e,z'.sameBut hs ?_⟩;rintro rfl;exact hj (ml hN e1 (I.ok.inj _ _ _ e hc▸hi))
  .by_cases hcc:c'=c
   .subst hcc;exact⟨_,hc'⟩
   .obtain⟨w2,z2⟩:=I.cell y c' e;exact⟨w2,z2.sameBut hs hcc⟩
  .obtain⟨e,n,ne,nf,d⟩:=I.pin p hp;refine⟨(hs.2 p.1 ?_).trans e,n,ne,nf,d⟩;intro q;rw[q,hoc]at e;have q':oc=p.2:=Option.some.inj e;exact d w' (by rw[<-q'];exact hocd)
def bR (I:Inv X Y U H s)(hN:X.N.Nodup)(hi:X.N[i]? =some x)(hx:Loc X.env.scope x)(r:RelV v u)
  (h:∀ s',Inv X Y (U.set i (some v)) H s'->Q () s') (hf:X.fn x=true\/X.env.scope.names.lookup x=some .local:=by first|exact .inl rfl|exact .inr rfl|assumption):wpAny M A (storeName X.env x u) Q E s:=
 oH I hN hi hx r (λs' I' _=>h s' I') hf
def Inv.BE {s':Shared}(I:Inv X Y U H s)(ho:s'.os=s.os)(u:Un (qh X.stack) ch H H' s.heap s'.heap)(hok:hE X.prog X.w H' s'.heap)(hg:AllBare s'.gens)
  (hch:∀ b ∈ ch,(b ∈ X.ex\/X.s₀.heap.objs.size<=b)/\b≠X.env.locals/\(∀ x c,X.env.cells.lookup x=some c->c≠b)/\∀ p ∈ X.pn++Y,p.1≠b):Inv X Y U H' s':=by
 obtain⟨h',g',d',t',o'⟩:=s';have e:o'=s.os:=ho;subst e;exact I.call (g':=g') (t':=t') (d':=d') u hok hg hch
end
@[reducible]def XK:=Addr->Hp->Prop
@[reducible]def St:=List (Option V)
@[reducible]def VK:=V->Hp->Prop
@[reducible]def TE:=St->Hp->VK->Prop
@[reducible]def TT:=St->Hp->(Bool->Hp->Prop)->Prop
@[reducible]def TA:=St->Hp->(List V->Hp->Prop)->Prop
structure Ends where
 nx:St->Hp->Prop
 rt:VK
 bk:St->Hp->Prop:=λ_ _=>False
 ct:St->Hp->Prop:=λ_ _=>False
@[reducible]def TS:=Ends->St->Hp->Prop
abbrev EP (X:Cx)(Y:NW)(U:St)(Q:VK)(u:Value)(s':Shared):Prop:=∃ v H',Inv X Y U H' s'/\RelV v u/\Q v H'
abbrev TP (X:Cx)(Y:NW)(U:St)(Q:Bool->Hp->Prop)(b:Bool)(s':Shared):Prop:=∃ H',Inv X Y U H' s'/\Q b H'
abbrev AP (X:Cx)(Y:NW)(U:St)(Q:List V->Hp->Prop)(us:List Value)(s':Shared):Prop:=∃ vs H',Inv X Y U H' s'/\Vals vs us/\Q vs H'
abbrev SP (X:Cx)(Y:NW)(D:Ends)(f:Flow)(s':Shared):Prop:=
 match f with
 | .next=>∃ σ' H',Inv X Y σ' H' s'/\D.nx σ' H'
 | .brk=>∃ σ' H',Inv X Y σ' H' s'/\D.bk σ' H'
 | .cont=>∃ σ' H',Inv X Y σ' H' s'/\D.ct σ' H'
 | .ret u=>∃ v σ' H',Inv X Y σ' H' s'/\RelV v u/\D.rt v H'
abbrev PE (X:Cx)(e:Expr)(t:TE):Prop:=
 ∀ (Y:NW) (s:Shared) (U:St) (H:Hp) (Q:VK),Inv X Y U H s->t U H Q->wpAny (model X.prog X.w) X.A (eval e X.env) (EP X Y U Q) X.xe s
abbrev PT (X:Cx)(e:Expr)(t:TT):Prop:=
 ∀ (Y:NW) (s:Shared) (U:St) (H:Hp) (Q:Bool->Hp->Prop),Inv X Y U H s->t U H Q->wpAny (model X.prog X.w) X.A (isTrue e X.env (eval e X.env)) (TP X Y U Q) X.xe s
abbrev PW (X:Cx)(e:Expr)(t:TT):Prop:=
 ∀ (whole:Sem Value) (Y:NW) (s:Shared) (U:St) (H:Hp) (Q:Bool->Hp->Prop),Inv X Y U H s->t U H Q->wpAny (model X.prog X.w) X.A (isTrue e X.env whole) (TP X Y U Q) X.xe s
variable {e:Expr}
def PW.pt {X:Cx}{t:TT}(h:PW X e t):PT X e t:=h _
abbrev PA (X:Cx)(es:List Expr)(t:TA):Prop:=
 ∀ (pos:Pos) (Y:NW) (s:Shared) (U:St) (H:Hp) (Q:List V->Hp->Prop),Inv X Y U H s->t U H Q->wpAny (model X.prog X.w) X.A (spliced (backTo pos (bn es X.env))) (AP X Y U Q) X.xe s
abbrev PS (X:Cx)(st:Stmt)(t:TS):Prop:=
 ∀ (Y:NW) (s:Shared) (U:St) (H:Hp) (D:Ends),Inv X Y U H s->t D U H->wpAny (model X.prog X.w) X.A (exec st X.env) (SP X Y D) X.xe s
abbrev Fe (X:Cx)(st:List Stmt)(t:TS):Prop:=
 ∀ (Y:NW) (s:Shared) (U:St) (H:Hp) (D:Ends),Inv X Y U H s->t D U H->wpAny (model X.prog X.w) X.A (execs st X.env) (SP X Y D) X.xe s
variable {s:Shared}
def aD {α:Type}{t:Sem α}{Q Q':α->Shared->Prop}(h:wpAny M A t Q E s)(hQ:∀ a s,Q a s->Q' a s):wpAny M A t Q' E s:=wpAny_mono h hQ λ_ _ x=>x
variable {Q:NV}{Y:NW}{U:St}
section
variable {X:Cx}
abbrev MB (i:Nat):TE:=λU H Q=>∃ v,U[i]? =some (some v)/\Q v H
abbrev tC (v:V):TE:=λ_ H Q=>Q v H
def FA {pos:Pos}(hN:X.N[i]? =some x)(hv:Lh X.env.scope x)(hd:(x ==("__debug__":Str))=false:=by decide) (hcd:(x ==("__classdict__":Str))=false:=by decide):PE X (.Name x pos) (MB i):=by
 intro Y s U H Q I h;obtain⟨v,e,h⟩:=h;obtain⟨m,hn,hl⟩:=I.loc;obtain⟨u,r,l⟩:=hl i x v hN e hv;have fin:EP X Y U Q u s:=⟨v,H,I,r,h⟩;rcases l with⟨hk,hm⟩|⟨hk,c,hc,hcell⟩
 .exact wpAny_Name (wpAny_loadName_local I.ok.kind hk hn hm fin) hd
 .rcases hk with hk|hk
  .exact wpAny_Name (wpAny_loadName_cell I.ok.kind hk hc hcell fin) hd
  .exact wpAny_Name (wpAny_loadName_free I.ok.kind hk hc hcell fin hcd) hd
def G9 {i j pos}:PE X (.Constant (.int i) j pos) (tC (.int i)):=λ_ _ _ H _ I h=>wpAny_Constant_int ⟨.int i,H,I.tok _,⟨_,rfl⟩,h⟩
def KZ {b j pos}:PE X (.Constant (.bool b) j pos) (tC (.bl b)):=λ_ _ _ H _ I h=>Constant_bool ⟨.bl b,H,I,rfl,h⟩
def G8 {j pos}:PE X (.Constant .none j pos) (tC .non):=λ_ _ _ H _ I h=>Constant_none ⟨.non,H,I,rfl,h⟩
def Bp {x j pos}:PE X (.Constant (.str x) j pos) (tC (.str x)):=λ_ _ _ H _ I h=>Calls.Constant_str ⟨.str x,H,I.tok _,⟨_,rfl⟩,h⟩
abbrev Gl (X:Cx)(x:Str):Prop:=X.env.kindOf x=some .globalImplicit
def bH {pos:Pos}(I:Inv X Y U H s)(hg:Gl X x)(hm:X.mg x=some u)(h:Q u s)
  (hd:(x ==("__debug__":Str))=false:=by decide):wpAny (model X.prog X.w) X.A (eval (.Name x pos) X.env) Q E s:=
 Calls.Name_function_global I.ok.kind hg (Calls.loadGlobal_global (by rw[I.ok.glob];exact I.mod.glob.keeps I.bk) hm h) hd
def cW {pos:Pos}(I:Inv X Y U H s)(hg:Gl X x)(hm:X.mg x=none)(hv:bootBuiltins x=some u)(h:Q u s)
  (hn:x≠"__name__":=by decide) (hd:(x ==("__debug__":Str))=false:=by decide):wpAny (model X.prog X.w) X.A (eval (.Name x pos) X.env) Q E s:=by
 obtain⟨mb,h1,h2⟩:=I.mod.blt;exact Calls.Name_function_global I.ok.kind hg (Calls.loadGlobal_builtin (by rw[I.ok.glob];exact I.mod.glob.keeps I.bk) hm (by rw[I.ok.blt];exact h1.keeps I.bk) ((h2 x hn).trans hv) h) hd
def wC {pos:Pos}(hg:Gl X x)(hm:X.mg x=some u)(r:RelV v u)(hd:(x ==("__debug__":Str))=false:=by decide):PE X (.Name x pos) (tC v):=
 λ_ _ _ H _ I h=>bH I hg hm ⟨v,H,I,r,h⟩ hd
def Cy {pos:Pos}(hg:Gl X x)(hm:X.mg x=none)(hv:bootBuiltins x=some u)(r:RelV v u)(hn:x≠"__name__":=by decide) (hd:(x ==("__debug__":Str))=false:=by decide):PE X (.Name x pos) (tC v):=
 λ_ _ _ H _ I h=>cW I hg hm hv ⟨v,H,I,r,h⟩ hn hd
variable {a b:Expr}{ta tb:TE}{pos:Pos}
variable {tA tB':TT}{rest:List Expr}
abbrev Mg (t u:TT):TT:=λU H Q=>t U H λc H1=>if c=true then u U H1 Q else Q false H1
abbrev NK (t u:TT):TT:=λU H Q=>t U H λc H1=>if c=true then Q true H1 else u U H1 Q
abbrev Ma (t:TT):TT:=λU H Q=>t U H λc H1=>Q (!c) H1
def Ec (ha:PT X a tA):PW X (.BoolOp .And [a] pos) tA:=by
 intro wh Y s U H Q I h;refine isTrue_and (aD (ha Y s U H Q I h) λc s1 e=>?_);cases c with
 |true=>exact isTrue_and_nil e
 |false=>exact e
def F7 (ha:PT X a tA):PW X (.BoolOp .Or [a] pos) tA:=by
 intro wh Y s U H Q I h;refine isTrue_or (aD (ha Y s U H Q I h) λc s1 e=>?_);cases c with
 |false=>exact isTrue_or_nil e
 |true=>exact e
def Fx (ha:PT X a tA)(hb:PW X (.BoolOp .And (b::rest) pos) tB'):PW X (.BoolOp .And (a::b::rest) pos) (Mg tA tB'):=by
 intro wh Y s U H Q I h;refine isTrue_and (aD (ha Y s U H _ I h) λc s1 ⟨H1,I1,q1⟩=>?_);cases c with
 |true=>exact hb wh Y s1 U H1 Q I1 q1
 |false=>exact⟨H1,I1,q1⟩
def Js (ha:PT X a tA)(hb:PW X (.BoolOp .Or (b::rest) pos) tB'):PW X (.BoolOp .Or (a::b::rest) pos) (NK tA tB'):=by
 intro wh Y s U H Q I h;refine isTrue_or (aD (ha Y s U H _ I h) λc s1 ⟨H1,I1,q1⟩=>?_);cases c with
 |true=>exact⟨H1,I1,q1⟩
 |false=>exact hb wh Y s1 U H1 Q I1 q1
def Gh (ha:PT X a tA):PT X (.UnaryOp .Not a pos) (Ma tA):=by
 intro Y s U H Q I h;exact isTrue_not (ha Y s U H (λc H1=>Q (!c) H1) I h)
abbrev KR (ta tb:TE):TE:=λU H Q=>ta U H λx H1=>∃ c,x=.bl c/\if c=true then tb U H1 Q else Q (.bl false) H1
abbrev MG (ta tb:TE):TE:=λU H Q=>ta U H λx H1=>∃ c,x=.bl c/\if c=true then Q (.bl true) H1 else tb U H1 Q
abbrev IM (ta:TE):TE:=λU H Q=>ta U H λx H1=>∃ c,x=.bl c/\Q (.bl (!c)) H1
def Ae {op}{t:TE}(h:PE X a t):PE X (.BoolOp op [a] pos) t:=λY s U H Q I hw=>BoolOp_one (h Y s U H Q I hw)
def Fq (ha:PE X a ta)(hb:PE X (.BoolOp .And (b::rest) pos) tb):PE X (.BoolOp .And (a::b::rest) pos) (KR ta tb):=by
 intro Y s U H Q I h;refine BoolOp_and (aD (ha Y s U H _ I h) λv s1 ⟨x,H1,I1,r1,q1⟩=>?_);obtain⟨c,rfl,q1⟩:=q1;cases r1;refine bi ?_;cases c with
 |true=>exact hb Y s1 U H1 Q I1 q1
 |false=>exact⟨.bl false,H1,I1,rfl,q1⟩
def Jy (ha:PE X a ta)(hb:PE X (.BoolOp .Or (b::rest) pos) tb):PE X (.BoolOp .Or (a::b::rest) pos) (MG ta tb):=by
 intro Y s U H Q I h;refine BoolOp_or (aD (ha Y s U H _ I h) λv s1 ⟨x,H1,I1,r1,q1⟩=>?_);obtain⟨c,rfl,q1⟩:=q1;cases r1;refine bi ?_;cases c with
 |false=>exact hb Y s1 U H1 Q I1 q1
 |true=>exact⟨.bl true,H1,I1,rfl,q1⟩
def FW (ha:PE X a ta):PE X (.UnaryOp .Not a pos) (IM ta):=by
 intro Y s U H Q I h;refine UnaryOp_ (aD (ha Y s U H _ I h) λv s1 ⟨x,H1,I1,r1,q1⟩=>?_);obtain⟨c,rfl,q1⟩:=q1;cases r1;exact not_of (bi ⟨.bl (!c),H1,I1,rfl,q1⟩)
abbrev NJ (t:TT)(ta tb:TE):TE:=λU H Q=>t U H λc H1=>if c=true then ta U H1 Q else tb U H1 Q
def yU {c:Expr}(hc:PT X c tA)(ha:PE X a ta)(hb:PE X b tb):PE X (.IfExp c a b pos) (NJ tA ta tb):=by
 intro Y s U H Q I h;refine wpAny_IfExp (aD (hc Y s U H _ I h) λd s1 ⟨H1,I1,q1⟩=>?_);cases d with
 |true=>exact ha Y s1 U H1 Q I1 q1
 |false=>exact hb Y s1 U H1 Q I1 q1
end
abbrev bb (K:W.Frag)(H:Hp)(a:Addr)(xs:List V):Prop:=
 Rd H a (.lst xs)\/
  ∃ (o:Obj) (its:Array Value) (n:Nat),K.lookup a=some o/\o.cls=.type "list"/\o.dict=none/\o.data=.seq its n/\its.size<=bv/\Vals xs its.toList
abbrev bp (K:W.Frag)(H:Hp)(a:Addr)(xs:List V):Prop:=
 Rd H a (.tup xs)\/
  ∃ (o:Obj) (its:Array Value) (n:Nat),K.lookup a=some o/\o.cls=.type "tuple"/\o.data=.seq its n/\its.size<=bv/\Vals xs its.toList
abbrev GQ:Value->Option V
 | .none=>some .non
 | .bool b=>some (.bl b)
 | .int i _=>some (.int i)
 | .str x _=>some (.str x)
 | .bytes b _=>some (.byt b)
 | .float b _=>some (.flt b)
 | .ref a=>some (.ref a)
 | .type n=>some (.ty n)
 |_=>none
def RelV.abs {x:V}(r:RelV x u):GQ u=some x:=by
 cases x with
 |non=>cases r;rfl
 |bl _=>cases r;rfl
 |int _=>obtain⟨t,rfl⟩:=r;rfl
 |str _=>obtain⟨t,rfl⟩:=r;rfl
 |byt _=>obtain⟨t,rfl⟩:=r;rfl
 |flt _=>obtain⟨t,rfl⟩:=r;rfl
 |ref _=>cases r;rfl
 |ty _=>cases r;rfl
def RelV.inj {x y:V}(r:RelV x u)(q:RelV y u):x=y:=Option.some.inj (r.abs.symm.trans q.abs)
def Vals.inj:∀ {xs ys:List V}{us:List Value},Vals xs us->Vals ys us->xs=ys
 |_,_,_,.nil,.nil=>rfl
 |_,_,_,.cons r t,.cons r' t'=>by rw[r.inj r',Vals.inj t t']
variable {K:W.Frag}
section
variable {X:Cx}{Y:NW}{U:St}{H:Hp}{s:Shared}{a:Addr}{xs ys:List V}
def bb.of (h:H a=some (.lst xs)):bb K H a xs:=.inl (.inl h)
def bp.of (h:H a=some (.tup xs)):bp K H a xs:=.inl (.inl h)
def Inv.list (I:Inv X Y U H s)(h:bb X.K H a xs):∃ its:List Value,Vals xs its/\PlainL s.heap a its.toArray/\xs.length<=bv:=by
 rcases h with h|⟨o,its,n,hk,hc,hd,hs,hz,r⟩
 .obtain⟨z,its,n,r,e⟩:=h.ok I.hok;exact⟨its,r,⟨_,n,e,rfl,rfl,rfl⟩,z⟩
 .refine⟨its.toList,r,⟨o,n,I.bV a o hk,hc,hd,by simpa using hs⟩,?_⟩;have e:=r.length;simp only[Array.length_toList]at e
  omega
def Inv.tuple (I:Inv X Y U H s)(h:bp X.K H a xs):∃ its:List Value,Vals xs its/\IsTup s.heap a its.toArray/\xs.length<=bv:=by
 rcases h with h|⟨o,its,n,hk,hc,hs,hz,r⟩
 .obtain⟨z,its,r,p⟩:=h.ok I.hok;exact⟨its,r,p,z⟩
 .refine⟨its.toList,r,⟨o,I.bV a o hk,hc,n,by simpa using hs⟩,?_⟩;have e:=r.length;simp only[Array.length_toList]at e
  omega
def Inv.mz (I:Inv X Y U H s)(h:bb X.K H a xs)(h':bb X.K H a ys):xs=ys:=by
 obtain⟨its,r,⟨o,n,e,_,_,d⟩,_⟩:=I.list h;obtain⟨its',r',⟨o',n',e',_,_,d'⟩,_⟩:=I.list h';rw[e]at e';cases e';rw[d]at d'
 injection d' with d1 _
 have:its=its':=by simpa using congrArg Array.toList d1
 subst this;exact r.inj r'
def Inv.jE (I:Inv X Y U H s)(h:bp X.K H a xs)(h':bp X.K H a ys):xs=ys:=by
 obtain⟨its,r,⟨o,e,_,n,d⟩,_⟩:=I.tuple h;obtain⟨its',r',⟨o',e',_,n',d'⟩,_⟩:=I.tuple h';rw[e]at e';cases e';rw[d]at d'
 injection d' with d1 _
 have:its=its':=by simpa using congrArg Array.toList d1
 subst this;exact r.inj r'
end
section
variable {X:Cx}{Y:NW}{U:St}{H:Hp}{s:Shared}{E:NV}
end
section
variable {X:Cx}{st:Stmt}{rest:List Stmt}{t u:TS}{e:Expr}{te:TE}{pos:Pos}
abbrev Jg:TS:=λD U H=>D.nx U H
abbrev LZ (t u:TS):TS:=λD U H=>t { D with nx:=u D } U H
def C8:Fe X [] Jg:=λ_ _ U H _ I h=>wpAny_execs_nil ⟨U,H,I,h⟩
def Bm (h1:PS X st t)(h2:Fe X rest u):Fe X (st::rest) (LZ t u):=by
 intro Y s U H D I h;refine wpAny_execs_cons (aD (h1 Y s U H { D with nx:=u D } I h) λf s1 q=>?_);cases f with
 |next=>
  obtain⟨σ',H',I',q⟩:=q;exact h2 Y s1 σ' H' D I' q
 |ret v=>exact q
 |brk=>exact q
 |cont=>exact q
def Inv.quiet (I:Inv X Y U H s):interactive X.env=false:=by simp[interactive,I.ok.kind]
abbrev Kh (te:TE):TS:=λD U H=>te U H λ_ H1=>D.nx U H1
def C1 (he:PE X e te)(hs:swapsWith e none pos.line X.env=pure false:=by rfl):PS X (.Expr e pos) (Kh te):=by
 intro Y s U H D I h;exact wpAny_Expr_any (aD (he Y s U H _ I h) λv s1 ⟨x,H1,I1,r1,q1⟩=>⟨U,H1,I1,q1⟩) I.quiet hs
abbrev MP (te:TE):TS:=λD U H=>te U H D.rt
def FE (he:PE X e te):PS X (.Return (some e) pos) (MP te):=by
 intro Y s U H D I h;exact wpAny_Return_some (aD (he Y s U H _ I h) λv s1 ⟨x,H1,I1,r1,q1⟩=>⟨x,U,H1,I1,r1,q1⟩)
abbrev LL (c:TT)(t u:TS):TS:=λD U H=>c U H λb H1=>if b=true then t D U H1 else u D U H1
def Ju {c:Expr}{a b:List Stmt}{tc:TT}(hc:PT X c tc)(ha:Fe X a t)(hb:Fe X b u):PS X (.If c a b pos) (LL tc t u):=by
 intro Y s U H D I h;refine wpAny_If (aD (hc Y s U H _ I h) λd s1 ⟨H1,I1,q1⟩=>?_);cases d with
 |true=>exact ha Y s1 U H1 D I1 q1
 |false=>exact hb Y s1 U H1 D I1 q1
end
@[reducible]def TG:=V->St->Hp->(St->Hp->Prop)->Prop
@[reducible]def Ei:=List V->St->Hp->(St->Hp->Prop)->Prop
abbrev PG (X:Cx)(target:Expr)(t:TG):Prop:=
 ∀ (Y:NW) (s:Shared) (U:St) (H:Hp) (v:V) (u:Value) (Q:St->Hp->Prop),Inv X Y U H s->RelV v u->t v U H Q->
  wpAny (model X.prog X.w) X.A (assign target X.env u) (λ_ s'=>∃ σ' H',Inv X Y σ' H' s'/\Q σ' H') X.xe s
abbrev FJ (X:Cx)(ts:List Expr)(t:Ei):Prop:=
 ∀ (Y:NW) (s:Shared) (U:St) (H:Hp) (vs:List V) (us:List Value) (Q:St->Hp->Prop),Inv X Y U H s->Vals vs us->t vs U H Q->
  wpAny (model X.prog X.w) X.A (assignInOrder ((assignEach ts X.env).map (·.2)) us) (λ_ s'=>∃ σ' H',Inv X Y σ' H' s'/\Q σ' H') X.xe s
@[reducible]def xB:=V->V->V->Hp->(Hp->Prop)->Prop
abbrev CB (X:Cx)(t:xB):Prop:=
 ∀ (Y:NW) (s:Shared) (U:St) (H:Hp) (o i v:V) (ov iv u:Value) (Q:Hp->Prop),Inv X Y U H s->RelV o ov->RelV i iv->RelV v u->t o i v H Q->
  wpAny (model X.prog X.w) X.A (setItem ov iv u) (λ_ s'=>∃ H',Inv X Y U H' s'/\Q H') X.xe s
@[reducible]def Lp:=V->V->Hp->VK->Prop
abbrev Li (X:Cx)(op:Operator)(t:Lp):Prop:=
 ∀ (Y:NW) (s:Shared) (U:St) (H:Hp) (x y:V) (v u:Value) (Q:VK),Inv X Y U H s->RelV x v->RelV y u->t x y H Q->
  wpAny (model X.prog X.w) X.A (inplaceOp op v u) (EP X Y U Q) X.xe s
variable {es:List Expr}{k:Nat}{tg:Expr}{te:TE}
section
variable {X:Cx}{pos:Pos}
abbrev ie (i:Nat):TG:=λv U H Q=>Q (U.set i (some v)) H
def iy (hN:X.N.Nodup)(hi:X.N[i]? =some x)(hx:Loc X.env.scope x)(hf:X.fn x=true\/X.env.scope.names.lookup x=some .local:=by first|exact .inl rfl|exact .inr rfl|assumption):PG X (.Name x pos) (ie i):=by
 intro Y s U H v u Q I r h;exact wpAny_assign_Name (bR I hN hi hx r (λs' I'=>⟨_,H,I',h⟩) hf)
abbrev Mi:Ei:=λvs U H Q=>vs=[]/\Q U H
abbrev Jm (t:TG)(u:Ei):Ei:=λvs U H Q=>∃ v r,vs=v::r/\t v U H λσ' H'=>u r σ' H' Q
def pE:FJ X [] Mi:=by
 intro Y s U H vs us Q I r h;obtain⟨e,h⟩:=h;subst e;cases r;exact assignInOrder_nil ⟨U,H,I,h⟩
def iJ {t:TG}{u:Ei}(h1:PG X e t)(h2:FJ X es u)
  (hs:(assignEach (e::es) X.env).map (·.2)=assign e X.env::(assignEach es X.env).map (·.2):=by rfl):FJ X (e::es) (Jm t u):=by
 intro Y s U H vs us Q I r h;obtain⟨v,vr,e1,h⟩:=h;subst e1;cases r with
 |cons r rr=>
  rw[hs];refine assignInOrder_cons (aD (h1 Y s U H _ _ _ I r h) λ_ s1 ⟨σ1,H1,I1,q1⟩=>?_);exact h2 Y s1 σ1 H1 _ _ Q I1 rr q1
abbrev Df (K:W.Frag)(n:Nat)(t:Ei):TG:=λv U H Q=>∃ a xs,v=.ref a/\bp K H a xs/\xs.length=n/\t xs U H Q
def pY {t:Ei}{n:Nat}(hc:X.calm=true)(h:FJ X es t)
  (hn:(assignEach es X.env).length=n:=by rfl) (hst:(assignEach es X.env).findIdx? (·.1)=none:=by rfl):PG X (.Tuple es k pos) (Df X.K n t):=by
 intro Y s U H v u Q I r hw;obtain⟨a,xs,e1,hq,hl,hw⟩:=hw;subst e1;cases r;obtain⟨its,rv,ht,hz⟩:=I.tuple hq;refine assign_Tuple_tuple (I.ok.hd hc) ht (by simp[hn,<-hl,rv.length]) hst λh' hx=>?_
 have I1:Inv X Y U H { s with heap:=h' }:=I.kept (t':=s.toks) λb o e=>hx b o (sn (v0 e)) e
 exact h Y _ U H xs _ Q I1 (by simpa using rv) hw
abbrev Lz (to ti:TE)(t:xB):TG:=λv U H Q=>to U H λo H1=>ti U H1 λi H2=>t o i v H2 λH3=>Q U H3
def F6 {o i:Expr}{to ti:TE}{t:xB}(ho:PE X o to)(hi:PE X i ti)(hs:CB X t)
  (ha:∀ v,assign (.Subscript o i pos) X.env v=(do
   let ov <-holding [v] (eval o X.env)
   let iv <-holding [v,ov] (eval i X.env)
   standAt pos
   holding [v,ov,iv] (setItem ov iv v)
   release [v,ov,iv] []):=by intro _;rfl):PG X (.Subscript o i pos) (Lz to ti t):=by
 intro Y s U H v u Q I r h;rw[ha];refine ad (bd (aD (ho Y s U H _ I h) λov s1 ⟨x,H1,I1,r1,q1⟩=>?_));refine ad (bd (aD (hi Y s1 U H1 _ I1 q1) λiv s2 ⟨y,H2,I2,r2,q2⟩=>?_));refine ad (wpAny_standAt (ad (bd (aD (hs Y s2 U H2 x y v ov iv u _ I2 r1 r2 r q2) λ_ s3 ⟨H3,I3,q3⟩=>?_))));exact wpAny_release ⟨U,H3,I3,q3⟩
abbrev Je (te:TE)(g:TG):TS:=λD U H=>te U H λx H1=>g x U H1 D.nx
def AU {g:TG}(he:PE X e te)(hg:PG X tg g)(hs:swapsWithSole [tg] e pos.line X.env=pure false:=by rfl) (hw:swappedStores [tg] e X.env=pure none:=by rfl)
  (h1:(assignEach [tg] X.env).map (·.2)=[assign tg X.env]:=by rfl):PS X (.Assign [tg] e pos) (Je te g):=by
 intro Y s U H D I h;refine wpAny_Assign_stores (aD (he Y s U H _ I h) λv s1 ⟨x,H1,I1,r1,q1⟩=>?_) hs hw;rw[h1];exact aD (hg Y s1 U H1 x v _ I1 r1 q1) λ_ s2 q=>q
def yM {pos':Pos}(hN:X.N.Nodup)(hi:X.N[i]? =some x)(hx:Loc X.env.scope x)(he:PE X e te)(hs:swapsWith e (some (.Name x pos')) pos.line X.env=pure false:=by rfl) (hf:X.fn x=true\/X.env.scope.names.lookup x=some .local:=by first|exact .inl rfl|exact .inr rfl|assumption):
  PS X (.Assign [.Name x pos'] e pos) (Je te (ie i)):=by
 intro Y s U H D I h;refine wpAny_Assign_Name (aD (he Y s U H _ I h) λv s1 ⟨y,H1,I1,r1,q1⟩=>?_) hs;exact bR I1 hN hi hx r1 (λs2 I2=>⟨_,H1,I2,q1⟩) hf
abbrev JD (to ti te:TE)(tget:V->V->Hp->VK->Prop)(tip:Lp)(tset:xB):TS:=λD U H=>to U H λo H1=>ti U H1 λi H2=>tget o i H2 λx H3=>te U H3 λy H4=>tip x y H4 λz H5=>tset o i z H5 λH6=>D.nx U H6
abbrev G5 (X:Cx)(t:V->V->Hp->VK->Prop):Prop:=
 ∀ (Y:NW) (s:Shared) (U:St) (H:Hp) (o i:V) (ov iv:Value) (Q:VK),Inv X Y U H s->RelV o ov->RelV i iv->t o i H Q->
  wpAny (model X.prog X.w) X.A (getItem ov iv) (EP X Y U Q) X.xe s
def D3 {o i:Expr}{to ti:TE}{tget:V->V->Hp->VK->Prop}{tip:Lp}{tset:xB}{op:Operator}{tpos:Pos}(ho:PE X o to)(hi:PE X i ti)(hg:G5 X tget)(he:PE X e te)(hp:Li X op tip)(hs:CB X tset)
  (ha:∀ ov iv new,augStore i ov iv new=(do holding [new,ov,iv] (setItem ov iv new);release [new,ov,iv] [];pure .next):=by intros;rfl):PS X (.AugAssign (.Subscript o i tpos) op e pos) (JD to ti te tget tip tset):=by
 intro Y s U H D I h;refine wpAny_AugAssign_SubscriptAny (aD (ho Y s U H _ I h) λov s1 ⟨x1,H1,I1,r1,q1⟩=>?_) ha;refine aD (hi Y s1 U H1 _ I1 q1) λiv s2 ⟨x2,H2,I2,r2,q2⟩=>?_
 refine aD (hg Y s2 U H2 x1 x2 ov iv _ I2 r1 r2 q2) λold s3 ⟨x3,H3,I3,r3,q3⟩=>?_
 refine aD (he Y s3 U H3 _ I3 q3) λv s4 ⟨x4,H4,I4,r4,q4⟩=>?_
 refine aD (hp Y s4 U H4 x3 x4 old v _ I4 r3 r4 q4) λnew s5 ⟨x5,H5,I5,r5,q5⟩=>?_
 exact aD (hs Y s5 U H5 x1 x2 x5 ov iv new _ I5 r1 r2 r5 q5) λ_ s6 ⟨H6,I6,q6⟩=>⟨U,H6,I6,q6⟩
abbrev Nf (f:Int->Int->Int):Lp:=λx y H Q=>∃ i j,x=.int i/\y=.int j/\Q (.int (f i j)) H
def Hw:Li X .Add (Nf λi j=>i+j):=by
 intro Y s U H x y v u Q I r1 r2 h;obtain⟨i,j,e1,e2,q⟩:=h;subst e1;subst e2;obtain⟨t,rfl⟩:=r1;obtain⟨t',rfl⟩:=r2;exact iadd_int ⟨.int _,H,I.tok _,⟨_,rfl⟩,q⟩
def Gk:Li X .Sub (Nf λi j=>i-j):=by
 intro Y s U H x y v u Q I r1 r2 h;obtain⟨i,j,e1,e2,q⟩:=h;subst e1;subst e2;obtain⟨t,rfl⟩:=r1;obtain⟨t',rfl⟩:=r2;exact isub_int ⟨.int _,H,I.tok _,⟨_,rfl⟩,q⟩
end
section
variable {X:Cx}{pos:Pos}
end
structure It where
 go:Nat->Hp->Prop
 yld:Nat->Hp->V->Hp->Prop
 stop:Nat->Hp->Prop
abbrev jo (X:Cx)(Y:NW)(H:Hp)(b:Addr):Prop:=
 H b=none/\b≠X.env.locals/\b ∉ X.fs/\(b ∈ X.ex\/X.s₀.heap.objs.size<=b)/\(∀ x c,X.env.cells.lookup x=some c->c≠b)/\∀ p ∈ X.pn++Y,p.1≠b
def Inv.A0 {X:Cx}{H':Hp}(I:Inv X Y U H s)(hb:s.heap.objs.size<=b)(hn:H' b=none):jo X Y H' b:=by
 refine⟨hn,Nat.ne_of_gt (pi I.lt hb),I.Mv hb,.inr (Nat.le_trans I.sz hb),λx c e z=>?_,λp hp z=>?_⟩
 .obtain⟨v,q⟩:=I.cell x c e;exact absurd (pi q.lt (by rw[z];exact hb)) (Nat.lt_irrefl _)
 .exact absurd (pi (v0 (I.pin p hp).1) (by rw[z];exact hb)) (Nat.lt_irrefl _)
structure Turn (P:Program) (w:World) (K:W.Frag) (tg:Expr) (J:It) (fp:List Addr) (it:Addr) (tn:Nat->Heap->Prop):Prop where
 mem:it ∈ fp
 obj:∀ i h,tn i h->∀ b ∈ fp,∃ o,h.get? b=some o/\∀ v,o.data≠.cell v
 keep:∀ i h h',tn i h->(∀ b ∈ fp,∀ o,h.get? b=some o->h'.get? b=some o)->tn i h'
 item:∀ (X:Cx),X.prog=P->X.w=w->X.K=K->X.calm=true->∀ (i:Nat) (Y:NW) (s:Shared) (U:St) (H:Hp) (E:NV),Inv X Y U H s->(∀ b ∈ fp,jo X Y H b)->tn i s.heap->J.go i H->
  wpAny (model P w) X.A (pyNext (.ref it)) (λr s1=>∃ u,r=some u/\
   wpAny (model P w) X.A (letOwnedTupleGo tg (.ref it) u) (λ_ s2=>∃ x H',Inv X Y U H' s2/\RelV x u/\J.yld i H x H'/\tn (i+1) s2.heap/\∀ b ∈ fp,H' b=none) E s1) E s
 done:∀ (X:Cx),X.prog=P->X.w=w->X.K=K->X.calm=true->∀ (i:Nat) (Y:NW) (s:Shared) (U:St) (H:Hp) (E:NV),Inv X Y U H s->(∀ b ∈ fp,jo X Y H b)->tn i s.heap->J.stop i H->
  wpAny (model P w) X.A (pyNext (.ref it)) (λr s1=>r=none/\Inv X Y U H s1) E s
 self:∀ (A:Around) (i:Nat) (s:Shared) (Q:NV) (E:NV),tn i s.heap->Q (.ref it) s->wpAny (model P w) A (pyIter (.ref it)) Q E s
@[reducible]def TI:=St->Hp->(It->Hp->Prop)->Prop
abbrev Lq (X:Cx)(Y:NW)(U:St)(tg:Expr)(R:It->Hp->Prop)(itv:Value)(s2:Shared):Prop:=
 ∃ (it:Addr) (fp:List Addr) (tn:Nat->Heap->Prop) (J:It) (H':Hp),itv=.ref it/\Inv X Y U H' s2/\Turn X.prog X.w X.K tg J fp it tn/\tn 0 s2.heap/\(∀ b ∈ fp,jo X Y H' b)/\R J H'
abbrev PI (X:Cx)(tg iter:Expr)(wi:TI):Prop:=
 ∀ (Y:NW) (s:Shared) (U:St) (H:Hp) (R:It->Hp->Prop),Inv X Y U H s->wi U H R->
  wpAny (model X.prog X.w) X.A (eval iter X.env) (λv s1=>wpAny (model X.prog X.w) X.A (pyIter v) (Lq X Y U tg R) X.xe s1) X.xe s
def Ay {it:Addr}{o:Obj}{n:String}{vs:Array Value}{Q:NU}(ho:s.heap.get? it=some o)(hc:o.cls=.type n)(hd:o.data=.fields vs)
  (hn:["enumerate","zip","dict_itemiterator","dict_reverseitemiterator","odict_iterator","itertools.zip_longest","itertools.pairwise"].contains n=false) (hQ:Q () s):wpAny M A (letOwnedTupleGo tg (.ref it) u) Q E s:=by
 unfold letOwnedTupleGo;cases tg<;>first
  |exact am hQ
  |(cases u<;>first
    |exact am hQ
    |(refine ad (wpAny_load ho ?_)
      rw[hc,hd];show wpAny M A (if(["enumerate","zip","dict_itemiterator","dict_reverseitemiterator","odict_iterator","itertools.zip_longest","itertools.pairwise"].contains n&&vs[0]? ==some (rawInt _))=true then _ else _) Q E s;rw[if_neg (by intro h;rw[hn,Bool.false_and]at h;cases h)];exact am hQ))
abbrev Fd (K:W.Frag)(a:Addr):It:=
 ⟨λi H=>∃ xs x,bb K H a xs/\xs[i]? =some x,λi H x H'=>H'=H/\∀ xs,bb K H a xs->xs[i]? =some x,λi H=>∃ xs,bb K H a xs/\xs.length<=i⟩
abbrev Jt (K:W.Frag)(a:Addr):It:=
 ⟨λi H=>∃ xs x,bp K H a xs/\xs[i]? =some x,λi H x H'=>H'=H/\∀ xs,bp K H a xs->xs[i]? =some x,λi H=>∃ xs,bp K H a xs/\xs.length<=i⟩
abbrev Fb (lo:Int)(n:Nat):It:=⟨λi _=>i<n,λi H x H'=>H'=H/\x=.int (lo+i),λi _=>n<=i⟩
def xI (a it:Addr):Turn P w K tg (Fd K a) [it] it (λi h=>h.IsListIter it a i) where
 mem:=by simp
 obj:=λi h st b hb=>by
  have e:b=it:=by simpa using hb
  subst e;obtain⟨o,e,c,d⟩:=st;exact⟨o,e,λv z=>by rw[d]at z;cases z⟩
 keep:=λi h h' st k=>st.at λo e=>k it (by simp) o e
 item:=by
  intro X hP hw hK hc i Y s U H E I hf st hg;subst hP hw hK;obtain⟨xs,x,hq,hx⟩:=hg;obtain⟨its,rv,p,hz⟩:=I.list hq;obtain⟨u,hu,ru⟩:=rv.get hx;obtain⟨f0,f1,f2,f3,f4,f5⟩:=hf it (by simp);refine wpAny_pyNext_list_item st p.isList (x:=u) (by simpa using hu) λh' st' sb=>?_
  have I1:Inv X Y U H { s with heap:=h' }:=I.turned (t':=s.toks) (λb o hb e=>(sb.2 b hb).trans e) f0 f1 f3 f4 f5;obtain⟨o,e,c,d⟩:=id st';exact⟨u,rfl,Ay (s:={ s with heap:=h' }) e c d (by decide) ⟨x,H,I1,ru,⟨rfl,λys hy=>by rw[I.mz hy hq];exact hx⟩,st',λb hb=>(hf b hb).1⟩⟩
 done:=by
  intro X hP hw hK hc i Y s U H E I hf st hg;subst hP hw hK;obtain⟨xs,hq,hx⟩:=hg;obtain⟨its,rv,p,hz⟩:=I.list hq;obtain⟨f0,f1,f2,f3,f4,f5⟩:=hf it (by simp);have hl:=rv.length;exact wpAny_pyNext_list_end (I.ok.hd hc) st p.isList (by simp;omega) λh' eb=>⟨rfl,I.turned (t':=s.toks) (λb o hb e=>eb b o hb e) f0 f1 f3 f4 f5⟩
 self:=λ_ _ _ _ _ st h=>wpAny_pyIter_listiter st h
def uz (a it:Addr):Turn P w K tg (Jt K a) [it] it (λi h=>h.IsTupleIter it a i) where
 mem:=by simp
 obj:=λi h st b hb=>by
  have e:b=it:=by simpa using hb
  subst e;obtain⟨o,e,c,d⟩:=st;exact⟨o,e,λv z=>by rw[d]at z;cases z⟩
 keep:=λi h h' st k=>st.at λo e=>k it (by simp) o e
 item:=by
  intro X hP hw hK hc i Y s U H E I hf st hg;subst hP hw hK;obtain⟨xs,x,hq,hx⟩:=hg;obtain⟨its,rv,p,hz⟩:=I.tuple hq;obtain⟨u,hu,ru⟩:=rv.get hx;obtain⟨f0,f1,f2,f3,f4,f5⟩:=hf it (by simp);refine wpAny_pyNext_tuple_item st (show s.heap.IsTuple a its.toArray from p) (x:=u) (by simpa using hu) λh' st' sb=>?_
  have I1:Inv X Y U H { s with heap:=h' }:=I.turned (t':=s.toks) (λb o hb e=>(sb.2 b hb).trans e) f0 f1 f3 f4 f5;obtain⟨o,e,c,d⟩:=id st';exact⟨u,rfl,Ay (s:={ s with heap:=h' }) e c d (by decide) ⟨x,H,I1,ru,⟨rfl,λys hy=>by rw[I.jE hy hq];exact hx⟩,st',λb hb=>(hf b hb).1⟩⟩
 done:=by
  intro X hP hw hK hc i Y s U H E I hf st hg;subst hP hw hK;obtain⟨xs,hq,hx⟩:=hg;obtain⟨its,rv,p,hz⟩:=I.tuple hq;obtain⟨f0,f1,f2,f3,f4,f5⟩:=hf it (by simp);have hl:=rv.length;exact wpAny_pyNext_tuple_end (I.ok.hd hc) st (show s.heap.IsTuple a its.toArray from p) (by simp;omega) λh' eb=>⟨rfl,I.turned (t':=s.toks) (λb o hb e=>eb b o hb e) f0 f1 f3 f4 f5⟩
 self:=λ_ _ _ _ _ st h=>wpAny_pyIter_tupleiter st h
def tS (it:Addr)(lo:Int)(n:Nat):Turn P w K tg (Fb lo n) [it] it (λi h=>IsRangeIter h it (lo+(i:Nat)*1) ((n:Int)-(i:Nat)) 1) where
 mem:=by simp
 obj:=λi h st b hb=>by
  have e:b=it:=by simpa using hb
  subst e;exact⟨_,st,λv z=>by
   have z':Data.fields _=Data.cell v:=z;cases z'⟩
 keep:=λi h h' st k=>k it (by simp) _ st
 item:=by
  intro X hP hw hK hc i Y s U H E I hf st hg;subst hP hw hK;obtain⟨f0,f1,f2,f3,f4,f5⟩:=hf it (by simp);have W:=Walks.range (prog:=X.prog) (w:=X.w) (I.ok.hd hc) it lo 1 n;refine W.item i s _ _ hg st λv h' tk hv st' kk=>?_
  obtain⟨t,rfl⟩:=hv;have I1:Inv X Y U H { s with heap:=h',toks:=tk }:=I.turned (λb o hb e=>kk b o (by simpa using hb) e) f0 f1 f3 f4 f5;refine⟨_,rfl,Ay (s:={ s with heap:=h',toks:=tk }) (n:="range_iterator") st' rfl rfl (by decide) ⟨.int (lo+i),H,I1,⟨t,?_⟩,⟨rfl,rfl⟩,st',λb hb=>(hf b hb).1⟩⟩;rw[Int.mul_one]
 done:=by
  intro X hP hw hK hc i Y s U H E I hf st hg;subst hP hw hK;obtain⟨f0,f1,f2,f3,f4,f5⟩:=hf it (by simp);exact wpAny_pyNext_range_end (I.ok.hd hc) st (by have:n<=i:=hg;omega) λh' eb=>⟨rfl,I.turned (t':=s.toks) (λb o hb e=>eb b o hb e) f0 f1 f3 f4 f5⟩
 self:=λ_ _ _ _ _ st h=>wpAny_pyIter_rangeiter st h
variable {pos:Pos}{fp:List Addr}{body:List Stmt}
section
variable {X:Cx}{tg:Expr}
def so {R:It->Hp->Prop}{lo hi:Int}{t u v:Tok}{tk:Nat}(I:Inv X Y U H s)(h1: -(2 ^ 62)<=lo)(h2:lo<2 ^ 62)(h3: -(2 ^ 62)<=hi)(h4:hi<2 ^ 62)
  (q:R (Fb lo (hi-lo).toNat) H):wpAny (model X.prog X.w) X.A (pyIter (.ref s.heap.objs.size)) (Lq X Y U tg R) E { s with heap:=s.heap.push { cls:=.type "range",data:=.fields #[.int lo t,.int hi u,.int 1 v] },toks:=tk }:=by
 refine wpAny_pyIter_range (IsRange.new ..) (small_one h1 h2 h3 h4) ?_;have I1:Inv X Y U H { s with heap:=s.heap.push { cls:=.type "range",data:=.fields #[.int lo t,.int hi u,.int 1 v] },toks:=tk }:=I.kept λb o e=>ut _ e
 refine⟨(s.heap.push { cls:=.type "range",data:=.fields #[.int lo t,.int hi u,.int 1 v] }).objs.size,[(s.heap.push { cls:=.type "range",data:=.fields #[.int lo t,.int hi u,.int 1 v] }).objs.size],_,_,H,rfl,
  I1.kept (t':=tk) λb o e=>ut _ e,tS _ lo (hi-lo).toNat,?_,λb hb=>?_,q⟩
 .have e1:lo+((0:Nat):Int)*1=lo:=by simp
  have e2:(((hi-lo).toNat:Nat):Int)-((0:Nat):Int)=Builtin.Range.rangeSize lo hi 1:=by rw[rangeSize_one];split<;>omega
  show IsRangeIter _ _ (lo+((0:Nat):Int)*1) ((((hi-lo).toNat:Nat):Int)-((0:Nat):Int)) 1;rw[e1,e2];exact v4 _ rfl
 .have e:b=(s.heap.push { cls:=.type "range",data:=.fields #[.int lo t,.int hi u,.int 1 v] }).objs.size:=by simpa using hb
  subst e;exact I1.A0 (sw _) (I1.hok.fresh (sw _))
abbrev KO (ta:TA):TI:=λU H R=>ta U H λvs H1=>∃ j:Int,vs=[.int j]/\ -(2 ^ 62)<=j/\j<2 ^ 62/\R (Fb 0 j.toNat) H1
abbrev Ki (ta:TA):TI:=λU H R=>ta U H λvs H1=>∃ i j:Int,vs=[.int i,.int j]/\(-(2 ^ 62)<=i/\i<2 ^ 62/\ -(2 ^ 62)<=j/\j<2 ^ 62)/\R (Fb i (j-i).toNat) H1
def xx {a:Expr}{ta:TA}{p:Pos}(hg:Gl X "range") (hm:X.mg "range"=none) (ha:PA X [a] ta) (hs:bn [a] X.env=[(false,eval a X.env)]:=by rfl):PI X tg (.Call (.Name "range" p) [a] [] pos) (KO ta):=by
 intro Y s U H R I h;refine Call_ (cW I hg hm boot_range (PyProof.Rows.callWith_type1 (aD (ha pos Y s U H _ I h) λus s1 ⟨vs,H1,I1,r1,q1⟩=>?_) hs rfl));obtain⟨j,e,q1,q2,q⟩:=q1;subst e;cases r1 with
 |cons r rr=>
  cases rr;obtain⟨t,rfl⟩:=r;exact call_range_1 (so I1 nofun nofun q1 q2 (by simpa using q))
def xa {a b:Expr}{ta:TA}{p:Pos}(hg:Gl X "range") (hm:X.mg "range"=none) (ha:PA X [a,b] ta) (hs:bn [a,b] X.env=[(false,eval a X.env),(false,eval b X.env)]:=by rfl) (hs2:bn [b] X.env=[(false,eval b X.env)]:=by rfl):
  PI X tg (.Call (.Name "range" p) [a,b] [] pos) (Ki ta):=by
 intro Y s U H R I h;refine Call_ (cW I hg hm boot_range (PyProof.Rows.callWith_type1 (aD (ha pos Y s U H _ I h) λus s1 ⟨vs,H1,I1,r1,q1⟩=>?_) (by rw[hs,hs2]) (by rw[hs2];rfl)));obtain⟨i,j,e,⟨q1,q2,q3,q4⟩,q⟩:=q1;subst e;cases r1 with
 |cons r rr=>
  cases rr with
  |cons r' rr=>
   cases rr;obtain⟨t,rfl⟩:=r;obtain⟨t',rfl⟩:=r';exact call_range_2 (so I1 q1 q2 q3 q4 q)
abbrev L8 (wi:TI)(g:TG)(tb:TS):TS:=λD U H=>wi U H λJ H1=>∃ W:Nat->Nat->St->Hp->Prop,(∃ m,W 0 m U H1)/\∀ i m U H,W i m U H->
 (J.stop i H/\D.nx U H)\/(J.go i H/\∃ N:St->Hp->Prop,(∀ σ' H',N σ' H'->∃ m',m'<m/\W (i+1) m' σ' H')/\∀ x H',J.yld i H x H'->g x U H' λσ2 H2=>tb { D with nx:=N,ct:=N,bk:=D.nx } σ2 H2)
abbrev qx (fp:List Addr)(h:Heap):List (Addr×Obj):=fp.filterMap λb=>(h.get? b).map λo=>(b,o)
def cg {o:Obj}(hb:b ∈ fp)(e:h.get? b=some o):(b,o) ∈ qx fp h:=List.mem_filterMap.mpr ⟨b,hb,by rw[e];rfl⟩
def xS {p:Addr×Obj}(hp:p ∈ qx fp h):p.1 ∈ fp/\h.get? p.1=some p.2:=by
 obtain⟨b,hb,e⟩:=List.mem_filterMap.mp hp;cases q:h.get? b with
 |none=>rw[q]at e;cases e
 |some o=>
  rw[q]at e;have e':(b,o)=p:=Option.some.inj e;subst e';exact⟨hb,q⟩
def Inv.pinned (I:Inv X Y U H s)(hf:∀ b ∈ fp,jo X Y H b) (ho:∀ b ∈ fp,∃ o,s.heap.get? b=some o/\∀ v,o.data≠.cell v):Inv X (Y++qx fp s.heap) U H s:=
 I.pF λp hp=>(mem_append.mp hp).elim (λz=>I.pin p (im _ z)) λz=>by
  obtain⟨hb,e⟩:=xS z;obtain⟨f0,f1,f2,_⟩:=hf p.1 hb;obtain⟨o,e',d⟩:=ho p.1 hb;rw[e]at e';cases e';exact⟨e,f0,f1,f2,d⟩
def Inv.fP {pl:NW}(I:Inv X (Y++pl) U H s):Inv X Y U H s:=I.pF λp hp=>I.pin p (im _ (mem_append_left _ hp))
def GU {iter:Expr}{wi:TI}{g:TG}{tb:TS}(hp:PassesOwn (model X.prog X.w) X.A X.env X.xe)(hc:X.calm=true)(hi:PI X tg iter wi)(hg:PG X tg g)(hb:Fe X body tb)
  (hs:∀ x,foldedSetIterable iter X.env x=pure x:=by intro _;rfl):PS X (.For tg iter body [] pos) (L8 wi g tb):=by
 intro Y s U H D I h;refine wpAny_For (aD (hi Y s U H _ I h) λv s1 h1=>aD h1 λitv s2 h2=>?_) hs;obtain⟨it,fp,tn,J,H2,e,I2,T,qG,f2,W,⟨m0,w0⟩,turn⟩:=h2;subst e;have stat:∀ {H':Hp},(∀ b ∈ fp,H' b=none)->∀ b ∈ fp,jo X Y H' b:=λhn b hb=>⟨hn b hb,(f2 b hb).2⟩
 refine codeAny_forLoop_any (λn s'=>∃ i σ' H',Inv X Y σ' H' s'/\tn i s'.heap/\(∀ b ∈ fp,H' b=none)/\W i n σ' H') ?_ m0 ⟨0,U,H2,I2,qG,λb hb=>(f2 b hb).1,w0⟩;rintro n s3 ⟨i,σ3,H3,I3,st3,fr3,w3⟩;rcases turn i n σ3 H3 w3 with⟨stop,qn⟩|⟨go,N,hN,step⟩
 .refine wpAny_passesOwn hp (aD (T.done X rfl rfl rfl hc i Y s3 σ3 H3 X.xe I3 (stat fr3) st3 stop) λr s4 ⟨hr,I4⟩=>?_);subst hr;exact wpAny_execs_nil ⟨σ3,H3,I4,qn⟩
 .refine wpAny_passesOwn hp (aD (T.item X rfl rfl rfl hc i Y s3 σ3 H3 X.xe I3 (stat fr3) st3 go) λr s4 ⟨u,hr,h4⟩=>?_);subst hr;refine wpAny_passesOwn hp (aD h4 λ_ s5 ⟨x,H5,I5,r5,y5,st5,fr5⟩=>?_);have I5':=I5.pinned (stat fr5) (T.obj _ _ st5);refine wpAny_passesOwn hp (aD (hg _ s5 σ3 H5 x u _ I5' r5 (step x H5 y5)) λ_ s6 ⟨σ6,H6,I6,q6⟩=>?_);refine wpAny_passesOwn hp (aD (hb _ s6 σ6 H6 _ I6 q6) λf s7 q7=>?_);have again:∀ {σ7:St}{H7:Hp},Inv X (Y++qx fp s5.heap) σ7 H7 s7->N σ7 H7->∃ m,m<n/\∃ i σ' H',Inv X Y σ' H' s7/\tn i s7.heap/\(∀ b ∈ fp,H' b=none)/\W i m σ' H':=λ{σ7 H7} I7 n7=>by
   obtain⟨m',hm,w7⟩:=hN σ7 H7 n7;refine⟨m',hm,i+1,σ7,H7,I7.fP,T.keep _ _ _ st5 λb hb o e=>(I7.pin (b,o) (im _ (im _ (cg hb e)))).1,λb hb=>?_,w7⟩;obtain⟨o,e,d⟩:=T.obj _ _ st5 b hb;exact(I7.pin (b,o) (im _ (im _ (cg hb e)))).2.1
  cases f with
  |next=>obtain⟨σ7,H7,I7,n7⟩:=q7;exact again I7 n7
  |cont=>obtain⟨σ7,H7,I7,n7⟩:=q7;exact again I7 n7
  |brk=>obtain⟨σ7,H7,I7,q7⟩:=q7;exact⟨σ7,H7,I7.fP,q7⟩
  |ret v=>obtain⟨x7,σ7,H7,I7,r7,q7⟩:=q7;exact⟨x7,σ7,H7,I7.fP,r7,q7⟩
end
@[reducible]def R2:=V->V->Hp->VK->Prop
abbrev cX (X:Cx)(f:Value->Value->Sem Value)(r:R2):Prop:=
 ∀ (Y:NW) (s:Shared) (U:St) (H:Hp) (x y:V) (v u:Value) (Q:VK),Inv X Y U H s->RelV x v->RelV y u->r x y H Q->
  wpAny (model X.prog X.w) X.A (f v u) (EP X Y U Q) X.xe s
abbrev Lo (X:Cx)(f:Value->Sem Value)(r:V->Hp->VK->Prop):Prop:=
 ∀ (Y:NW) (s:Shared) (U:St) (H:Hp) (x:V) (v:Value) (Q:VK),Inv X Y U H s->RelV x v->r x H Q->
  wpAny (model X.prog X.w) X.A (f v) (EP X Y U Q) X.xe s
abbrev di (X:Cx)(f:Value)(r:List V->Hp->VK->Prop):Prop:=
 ∀ (Y:NW) (s:Shared) (U:St) (H:Hp) (xs:List V) (us:List Value) (Q:VK),Inv X Y U H s->Vals xs us->r xs H Q->
  wpAny (model X.prog X.w) X.A (call f us) (EP X Y U Q) X.xe s
abbrev MH (X:Cx)(r:V->Hp->(Bool->Hp->Prop)->Prop):Prop:=
 ∀ (Y:NW) (s:Shared) (U:St) (H:Hp) (x:V) (v:Value) (Q:Bool->Hp->Prop),Inv X Y U H s->RelV x v->r x H Q->
  wpAny (model X.prog X.w) X.A (truthy v) (TP X Y U Q) X.xe s
abbrev Ln (r:R2)(ta tb:TE):TE:=λU H Q=>ta U H λx H1=>tb U H1 λy H2=>r x y H2 Q
abbrev NF (r:V->Hp->VK->Prop)(ta:TE):TE:=λU H Q=>ta U H λx H1=>r x H1 Q
abbrev rI (C:Int->Int->Prop)(g:Int->Int->V):R2:=λx y H Q=>∃ i j,x=.int i/\y=.int j/\C i j/\Q (g i j) H
abbrev Dn (g:Int->Int->V):R2:=λx y H Q=>∃ i j,x=.int i/\y=.int j/\Q (g i j) H
abbrev rU (g:Int->V):V->Hp->VK->Prop:=λx H Q=>∃ i,x=.int i/\Q (g i) H
variable {f:Value->Value->Sem Value}{r:R2}{g:Int->Int->Int}
section
variable {X:Cx}{a b c:Expr}{ta tb tc:TE}{pos:Pos}
def Hv (ha:PE X a ta)(hb:PE X b tb){R:V->V->Hp->Prop}(I:Inv X Y U H s)
  (h:ta U H λx H1=>tb U H1 λy H2=>R x y H2)
  (hf:∀ v u s2 x y H2,Inv X Y U H2 s2->RelV x v->RelV y u->R x y H2->wpAny (model X.prog X.w) X.A (f v u) Q X.xe s2):
  wpAny (model X.prog X.w) X.A (eval a X.env) (λv s₁=>wpAny (model X.prog X.w) X.A (eval b X.env) (λu s₂=>wpAny (model X.prog X.w) X.A (f v u) Q X.xe s₂) X.xe s₁) X.xe s:=by
 refine aD (ha Y s U H _ I h) λv s1 ⟨x,H1,I1,r1,q1⟩=>?_
 refine aD (hb Y s1 U H1 _ I1 q1) λu s2 ⟨y,H2,I2,r2,q2⟩=>?_
 exact hf v u s2 x y H2 I2 r1 r2 q2
def Kp {op:Operator}(ho:cX X (binaryOp op) r)(ha:PE X a ta)(hb:PE X b tb):PE X (.BinOp a op b pos) (Ln r ta tb):=by
 intro Y s U H Q I h;exact wpAny_BinOp (Hv ha hb I h λv u s2 x y H2 I2 rx ry q=>ho Y s2 U H2 x y v u Q I2 rx ry q)
def Kc {op:UnaryOp}{r:V->Hp->VK->Prop}(ho:Lo X (unaryOp op) r)(ha:PE X a ta):PE X (.UnaryOp op a pos) (NF r ta):=by
 intro Y s U H Q I h;exact UnaryOp_ (aD (ha Y s U H _ I h) λv s1 ⟨x,H1,I1,r1,q1⟩=>ho Y s1 U H1 x v Q I1 r1 q1)
def Lu {C:Int->Int->Prop}
  (rule:∀ (i j:Int) (t u:Tok) (s:Shared) (Q:NV) (E:NV),C i j->Q (.int (g i j) s.toks) { s with toks:=s.toks+1 }->wpAny (model X.prog X.w) X.A (f (.int i t) (.int j u)) Q E s):
  cX X f (rI C λi j=>.int (g i j)):=by
 intro Y s U H x y v u Q I rx ry h;obtain⟨i,j,rfl,rfl,hc,q⟩:=h;obtain⟨t,rfl⟩:=rx;obtain⟨t',rfl⟩:=ry;exact rule i j t t' s _ _ hc ⟨.int (g i j),H,I.tok _,⟨_,rfl⟩,q⟩
def K4 
  (rule:∀ (i j:Int) (t u:Tok) (s:Shared) (Q:NV) (E:NV),Q (.int (g i j) s.toks) { s with toks:=s.toks+1 }->wpAny (model X.prog X.w) X.A (f (.int i t) (.int j u)) Q E s):
  cX X f (Dn λi j=>.int (g i j)):=by
 intro Y s U H x y v u Q I rx ry h;obtain⟨i,j,rfl,rfl,q⟩:=h;obtain⟨t,rfl⟩:=rx;obtain⟨t',rfl⟩:=ry;exact rule i j t t' s _ _ ⟨.int (g i j),H,I.tok _,⟨_,rfl⟩,q⟩
def DX {g:Int->Int->Bool}
  (rule:∀ (i j:Int) (t u:Tok) (s:Shared) (Q:NV) (E:NV),Q (.bool (g i j)) s->wpAny (model X.prog X.w) X.A (f (.int i t) (.int j u)) Q E s):
  cX X f (Dn λi j=>.bl (g i j)):=by
 intro Y s U H x y v u Q I rx ry h;obtain⟨i,j,rfl,rfl,q⟩:=h;obtain⟨t,rfl⟩:=rx;obtain⟨t',rfl⟩:=ry;exact rule i j t t' s _ _ ⟨.bl (g i j),H,I,rfl,q⟩
abbrev LV (i j:Int):Prop:=0<j/\j<1073741824
abbrev DR (i j:Int):Prop:=0<=j/\j<=1000000/\i.natAbs<2 ^ 64
abbrev sG (i j:Int):Prop:=(-(2 ^ 64)<i/\i<2 ^ 64)\/(-(2 ^ 64)<j/\j<2 ^ 64)
def sG.ok {i j:Int}(h:sG i j):IntMulOk i j:=by
 rcases h with⟨h1,h2⟩|⟨h1,h2⟩
 .exact .of_left (intBits_le_64 h1 h2)
 .exact .of_right (intBits_le_64 h1 h2)
def Fw:cX X (binaryOp .Add) (Dn λi j=>.int (i+j)):=K4 λ_ _ _ _ _ _ _ q=>add_int q
def Hs:cX X (binaryOp .Sub) (Dn λi j=>.int (i-j)):=K4 λ_ _ _ _ _ _ _ q=>sub_int q
def FH:cX X (binaryOp .Mult) (rI sG λi j=>.int (i*j)):=Lu λ_ _ _ _ _ _ _ hc q=>mul_int q hc.ok
def Cb:cX X (binaryOp .FloorDiv) (rI LV λi j=>.int (i / j)):=Lu λi j _ _ _ _ _ hc q=>by
 have h1:(0:Int)<j:=hc.1;have h2:j<1073741824:=hc.2;exact floordiv_int nofun (by rw[Int.fdiv_eq_ediv_of_nonneg i nofun];exact q) (.inl (PyProof.noPylong_small nofun))
def FY:cX X (binaryOp .Mod) (rI (λ_ j=>0<j) λi j=>.int (i % j)):=Lu λi j _ _ _ _ _ hc q=>by
 have h1:(0:Int)<j:=hc;exact mod_int' nofun (by rw[Int.fmod_eq_emod_of_nonneg i nofun];exact q)
def Fy:cX X (binaryOp .Pow) (rI DR λi j=>.int (i ^ j.toNat)):=Lu λ_ _ _ _ _ _ _ hc q=>pow_int_small hc.1 hc.2.1 hc.2.2 q
def NG {f:Value->Sem Value}{g:Int->Int}
  (rule:∀ (i:Int) (t:Tok) (s:Shared) (Q:NV) (E:NV),Q (.int (g i) s.toks) { s with toks:=s.toks+1 }->wpAny (model X.prog X.w) X.A (f (.int i t)) Q E s):
  Lo X f (rU λi=>.int (g i)):=by
 intro Y s U H x v Q I rx h;obtain⟨i,rfl,q⟩:=h;obtain⟨t,rfl⟩:=rx;exact rule i t s _ _ ⟨.int (g i),H,I.tok _,⟨_,rfl⟩,q⟩
def HZ:Lo X (unaryOp .USub) (rU λi=>.int (-i)):=NG λ_ _ _ _ _ q=>neg_int q
end
variable {op:CmpOp}
section
variable {X:Cx}{a b c:Expr}{ta tb tc:TE}{pos:Pos}
def BH {Q:VK}{k k':Bool}(I:Inv X Y U H s)(q:Q (.bl k) H)(e:k=k'):EP X Y U Q (.bool k') s:=by
 subst e;exact⟨.bl k,H,I,rfl,q⟩
def K7:cX X (compareOp .Lt) (Dn λi j=>.bl (decide (i<j))):=DX λ_ _ _ _ _ _ _ q=>lt_int q
def Jp:cX X (compareOp .LtE) (Dn λi j=>.bl (decide (i<=j))):=DX λ_ _ _ _ _ _ _ q=>le_int q
def J8:cX X (compareOp .Gt) (Dn λi j=>.bl (decide (j<i))):=DX λ_ _ _ _ _ _ _ q=>gt_int q
def Jc:cX X (compareOp .GtE) (Dn λi j=>.bl (decide (j<=i))):=DX λ_ _ _ _ _ _ _ q=>ge_int q
def Gr:cX X (compareOp .Is) (λx y H Q=>y=.non/\Q (.bl (decide (x=.non))) H):=by
 intro Y s U H x y v u Q I rx ry h;obtain⟨rfl,q⟩:=h;cases ry;refine is_none_gen (BH I q ?_);cases x<;>first
  |(cases rx;rfl)
  |(obtain⟨t,rfl⟩:=rx;rfl)
def B3:cX X (compareOp .IsNot) (λx y H Q=>y=.non/\Q (.bl (!decide (x=.non))) H):=by
 intro Y s U H x y v u Q I rx ry h;obtain⟨rfl,q⟩:=h;cases ry;refine isnot_none_gen (BH I q ?_);cases x<;>first
  |(cases rx;rfl)
  |(obtain⟨t,rfl⟩:=rx;rfl)
def Dj (ho:cX X (compareOp op) r)(ha:PE X a ta)(hb:PE X b tb)(hm:behindInMarks op b=false):PE X (.Compare a [op] [b] pos) (Ln r ta tb):=by
 intro Y s U H Q I h;exact wpAny_Compare1 (Hv ha hb I h λv u s2 x y H2 I2 rx ry q=>ho Y s2 U H2 x y v u Q I2 rx ry q) hm
abbrev E6 (t:TE):TT:=λU H Q=>t U H λx H'=>∃ k,x=.bl k/\Q k H'
def DV (ho:cX X (compareOp op) r)(ha:PE X a ta)(hb:PE X b tb)(hm:behindInMarks op b=false):PT X (.Compare a [op] [b] pos) (E6 (Ln r ta tb)):=by
 intro Y s U H Q I h;refine wpAny_isTrue_Compare1 (aD (ha Y s U H _ I h) λv s1 ⟨x,H1,I1,r1,q1⟩=>aD (hb Y s1 U H1 _ I1 q1) λu s2 ⟨y,H2,I2,r2,q2⟩=>
  aD (ho Y s2 U H2 x y v u _ I2 r1 r2 q2) λc s3 ⟨z,H3,I3,r3,k,e,q3⟩=>?_) hm
 subst e;cases r3;exact bi ⟨H3,I3,q3⟩
abbrev zP (r r':R2)(ta tb tc:TE):TE:=λU H Q=>ta U H λx H1=>tb U H1 λy H2=>r x y H2 λz H3=>∃ k,z=.bl k/\
 (if k=true then tc U H3 λw' H4=>r' y w' H4 Q else Q (.bl false) H3)
def BU {op':CmpOp}{r':R2}(ho:cX X (compareOp op) r)(ho':cX X (compareOp op') r')(ha:PE X a ta)(hb:PE X b tb)(hc:PE X c tc)
  (hm:lastMarks [op,op'] [b,c]=false:=by with_unfolding_all rfl):PE X (.Compare a [op,op'] [b,c] pos) (zP r r' ta tb tc):=by
 intro Y s U H Q I h;refine Compare_chain (aD (ha Y s U H _ I h) λv s1 ⟨x,H1,I1,r1,q1⟩=>chain_link (aD (hb Y s1 U H1 _ I1 q1) λu s2 ⟨y,H2,I2,r2,q2⟩=>
  aD (ho Y s2 U H2 x y v u _ I2 r1 r2 q2) λd s3 ⟨z,H3,I3,r3,k,e,q3⟩=>?_)) hm
 subst e;cases r3;refine bi ?_;cases k with
 |false=>exact ite_ff ⟨.bl false,H3,I3,rfl,q3⟩
 |true=>exact ite_tt (chain_last (aD (hc Y s3 U H3 _ I3 q3) λw' s4 ⟨z',H4,I4,r4,q4⟩=>ho' Y s4 U H4 y z' u w' Q I4 r2 r4 q4))
def AX {op':CmpOp}{r':R2}(ho:cX X (compareOp op) r)(ho':cX X (compareOp op') r')(ha:PE X a ta)(hb:PE X b tb)(hc:PE X c tc)
  (hm:lastMarks [op,op'] [b,c]=false:=by with_unfolding_all rfl):PT X (.Compare a [op,op'] [b,c] pos) (E6 (zP r r' ta tb tc)):=by
 intro Y s U H Q I h;refine isTrue_chain (aD (ha Y s U H _ I h) λv s1 ⟨x,H1,I1,r1,q1⟩=>test_link (aD (hb Y s1 U H1 _ I1 q1) λu s2 ⟨y,H2,I2,r2,q2⟩=>
  aD (ho Y s2 U H2 x y v u _ I2 r1 r2 q2) λd s3 ⟨z,H3,I3,r3,k,e,q3⟩=>?_)) hm
 subst e;cases r3;refine bi ?_;cases k with
 |false=>
  obtain⟨k',e',q'⟩:=q3;cases e';exact ite_ff ⟨H3,I3,q'⟩
 |true=>
  refine ite_tt (test_last (aD (hc Y s3 U H3 _ I3 q3) λw' s4 ⟨z',H4,I4,r4,q4⟩=>aD (ho' Y s4 U H4 y z' u w' _ I4 r2 r4 q4) λd' s5 ⟨z2,H5,I5,r5,k2,e2,q5⟩=>?_));subst e2;cases r5;exact bi ⟨H5,I5,q5⟩
abbrev CT (K:W.Frag)(x:V)(H:Hp)(k:Bool):Prop:=
 match x with
 | .non=>k=false
 | .bl b=>k=b
 | .int i=>k=(i != 0)
 | .str y=>y.length<=bv/\k=((y.length:Int) != 0)
 | .byt y=>y.size<=bv/\k=((y.size:Int) != 0)
 | .ref p=>(∃ xs,bb K H p xs/\k= !xs.isEmpty)\/(∃ xs,bp K H p xs/\k= !xs.isEmpty)\/∃ kvs,H p=some (.dK kvs)/\k= !kvs.isEmpty
 |_=>False
def t6 {κ:Type}{kvs:List (κ×V)}{vs:List (κ×Value)}(r:KV kvs vs):(!vs.isEmpty)= !kvs.isEmpty:=by
 cases r<;>rfl
def lO {its:List Value}(r:Vals xs its):(!its.toArray.isEmpty)= !xs.isEmpty:=by
 cases r<;>simp
def jn:(bv:Nat)<2 ^ 63:=by rw[sizeLine_eq];decide
def Gb:MH X (λx H Q=>∃ k,CT X.K x H k/\Q k H):=by
 intro Y s U H x v Q I rx h;obtain⟨k,e,q⟩:=h;have hl:=jn;have hs:bv=16777216:=sizeLine_eq;cases x with
 |non=>
  cases rx;have e':k=false:=e;subst e';exact truthy_none ⟨H,I,q⟩
 |bl b=>
  cases rx;have e':k=b:=e;subst e';exact bi ⟨H,I,q⟩
 |int i=>
  obtain⟨t,rfl⟩:=rx;have e':k=(i != 0):=e;subst e';exact PySem.P.truthy_int ⟨H,I,q⟩
 |str y=>
  obtain⟨t,rfl⟩:=rx;obtain⟨hy,e'⟩:y.length<=bv/\k=((y.length:Int) != 0):=e;subst e';exact PySem.P.truthy_str nofun ⟨H,I.tok _,q⟩
 |byt y=>
  obtain⟨t,rfl⟩:=rx;obtain⟨hy,e'⟩:y.size<=bv/\k=((y.size:Int) != 0):=e;subst e';exact W.truthy_bytes nofun ⟨H,I.tok _,q⟩
 |ref p=>
  cases rx;have e':(∃ xs,bb X.K H p xs/\k= !xs.isEmpty)\/(∃ xs,bp X.K H p xs/\k= !xs.isEmpty)\/∃ kvs,H p=some (.dK kvs)/\k= !kvs.isEmpty:=e;rcases e' with⟨xs,hx,e'⟩|⟨xs,hx,e'⟩|⟨kvs,hx,e'⟩
  .subst e';obtain⟨its,r,pl,hz⟩:=I.list hx;have hlen:=r.length;exact wpAny_truthy_list pl.isList (by simp only[ii];omega) ⟨H,I.tok _,by rw[lO r];exact q⟩
  .subst e';obtain⟨its,r,pl,hz⟩:=I.tuple hx;have hlen:=r.length;exact truthy_tuple pl (by simp only[ii];omega) ⟨H,I.tok _,by rw[lO r];exact q⟩
  .subst e';obtain⟨hz,hS,vs,r,m⟩:kvs.length<=bv/\(p ==sysModules)=false/\∃ vs,KV kvs vs/\s.heap.DictOf (aA X.prog X.w) p vs:=I.hok p _ hx;have hlen:kvs.length=vs.length:=Paired.length r;exact wpAny_truthy_dict hS m nofun ⟨H,I.tok _,by rw[t6 r];exact q⟩
 |_=>exact(show False from e).elim
def Ab (ha:PE X a ta)(he:∀ whole,isTrue a X.env whole=(do let v <-whole;standAt a.pos;holding [v] (truthy v))):
  PT X a (λU H Q=>ta U H λx H'=>∃ k,CT X.K x H' k/\Q k H'):=by
 intro Y s U H Q I h;exact isTrue_plain (aD (ha Y s U H _ I h) λv s1 ⟨x,H1,I1,r1,q1⟩=>Gb Y s1 U H1 x v Q I1 r1 q1) (he _)
def tL:cX X (binaryOp .Add) (λx y H Q=>∃ i j,x=.str i/\y=.str j/\i.length+j.length<=bv/\Q (.str (i++j)) H):=by
 intro Y s U H x y v u Q I rx ry h;obtain⟨i,j,rfl,rfl,hz,q⟩:=h;obtain⟨t,rfl⟩:=rx;obtain⟨t',rfl⟩:=ry;exact add_str (λt' tk=>⟨.str (i++j),H,I.tok _,⟨_,rfl⟩,q⟩) hz
def vals1 {x:V}(r:Vals [x] us):∃ u,us=[u]/\RelV x u:=by
 cases r with
 |cons r1 r2=>cases r2;exact⟨_,rfl,r1⟩
def vals2 {x y:V}(r:Vals [x,y] us):∃ u w',us=[u,w']/\RelV x u/\RelV y w':=by
 cases r with
 |cons r1 r2=>
  cases r2 with
  |cons r3 r4=>cases r4;exact⟨_,_,rfl,r1,r3⟩
def wU (hc:X.calm=true):di X (.builtin "min") (λxs H Q=>∃ i j,xs=[.int i,.int j]/\Q (.int (if j<i then j else i)) H):=by
 intro Y s U H xs us Q I r h;obtain⟨i,j,rfl,q⟩:=h;obtain⟨u,w',rfl,⟨t,rfl⟩,⟨t',rfl⟩⟩:=vals2 r;refine min_two_ints (I.ok.hd hc) λh' tk k=>⟨_,H,I.kept k,?_,q⟩
 by_cases hj:j<i
 .rw[if_pos hj,if_pos hj];exact⟨_,rfl⟩
 .rw[if_neg hj,if_neg hj];exact⟨_,rfl⟩
def xh:di X (.type "int") (λxs H Q=>(∃ i,xs=[.int i]/\Q (.int i) H)\/∃ k,xs=[.bl k]/\Q (.int (if k then 1 else 0)) H):=by
 intro Y s U H xs us Q I r h;rcases h with⟨i,rfl,q⟩|⟨k,rfl,q⟩
 .obtain⟨u,rfl,t,rfl⟩:=vals1 r;exact call_int_int ⟨.int i,H,I,⟨_,rfl⟩,q⟩
 .obtain⟨u,rfl,r1⟩:=vals1 r;cases r1;exact call_int_bool ⟨.int (if k then 1 else 0),H,I.tok _,⟨_,rfl⟩,q⟩
def pX:di X (.type "str") (λxs H Q=>∃ i,xs=[.int i]/\i.natAbs.log2<1920/\Q (.str (toString i)) H):=by
 intro Y s U H xs us Q I r h;obtain⟨i,rfl,hz,q⟩:=h;obtain⟨u,rfl,t,rfl⟩:=vals1 r;exact PySem.P.str_of_int hz ⟨.str _,H,I.tok _,⟨_,rfl⟩,q⟩
abbrev IY (K:W.Frag)(x:V)(H:Hp)(n:Nat):Prop:=
 match x with
 | .str y=>y.length<=bv/\n=y.length
 | .byt y=>y.size<=bv/\n=y.size
 | .ref p=>(∃ xs,bb K H p xs/\n=xs.length)\/∃ xs,bp K H p xs/\n=xs.length
 |_=>False
def Ag:di X (.builtin "len") (λxs H Q=>∃ x n,xs=[x]/\IY X.K x H n/\Q (.int n) H):=by
 intro Y s U H xs us Q I r h;obtain⟨x,n,rfl,e,q⟩:=h;obtain⟨u,rfl,rx⟩:=vals1 r;have hl:=jn;have hs:bv=16777216:=sizeLine_eq;cases x with
 |str y=>
  obtain⟨t,rfl⟩:=rx;obtain⟨hy,e'⟩:y.length<=bv/\n=y.length:=e;subst e';exact len_str nofun ⟨.int _,H,I.tok _,⟨_,rfl⟩,q⟩
 |byt y=>
  obtain⟨t,rfl⟩:=rx;obtain⟨hy,e'⟩:y.size<=bv/\n=y.size:=e;subst e';exact W.len_bytes nofun ⟨.int _,H,I.tok _,⟨_,rfl⟩,q⟩
 |ref p=>
  cases rx;have e':(∃ xs,bb X.K H p xs/\n=xs.length)\/∃ xs,bp X.K H p xs/\n=xs.length:=e;rcases e' with⟨xs,hx,e'⟩|⟨xs,hx,e'⟩
  .subst e';obtain⟨its,r',pl,hz⟩:=I.list hx;have hlen:=r'.length;exact Calls.call_len_list pl.isList (by simp only[ii];omega) ⟨.int xs.length,H,I.tok _,⟨_,by simp only[ii];rw[hlen]⟩,q⟩
  .subst e';obtain⟨its,r',pl,hz⟩:=I.tuple hx;have hlen:=r'.length;exact len_tuple pl (by simp only[ii];omega) ⟨.int xs.length,H,I.tok _,⟨_,by simp only[ii];rw[hlen]⟩,q⟩
 |_=>exact(show False from e).elim
end
structure ur (h:Heap) (x dx C:Addr) (mA:NX):Prop where
 obj:h.get? x=some (W.instObj C dx)
 ns:h.Ns1 dx mA
 ne:dx≠x
variable {mA:NX}
def jw {dx:Addr}(n:h.Ns1 dx mA):∃ od,h.get? dx=some od/\∀ name,W.lookIn name od=some (mA name):=by
 obtain⟨o,es,ep,ho,hd,hk,_,hm⟩:=n;refine⟨o,ho,λname=>?_⟩;have e:=hm name;unfold nsFind findBy at e;rw[<-Array.find?_toList]at e;unfold W.lookIn;rw[hd];dsimp only
 split
 .rename_i y q;rw[q]at e;exact congrArg some e
 .rename_i q;rw[q]at e;have a:es.toList.any (·.refKey)=false:=by
   rw[any_eq_false];intro y hy;obtain⟨z,t,hkey⟩:=hk y (Array.mem_toList_iff.mp hy);simp[DictEntry.refKey,hkey]
  have a':¬ es.toList.any (·.refKey)=true:=by rw[a];exact Bool.false_ne_true
  rw[if_neg a'];exact congrArg some e
variable {C:Addr}
def ur.look {x dx:Addr}(I:ur h x dx C mA):∃ od,W.InstAt h x (W.instObj C dx) C (some od)/\∀ name,W.lookIn name od=some (mA name):=
 let⟨od,ho,hl⟩:=jw I.ns
 ⟨od,⟨I.obj,rfl,rfl,ho⟩,hl⟩
variable {pl:Sem Bool}{kw:List (Str×Value)}
section
variable {prog:Program}{w:World}{A:Around}{E:NV}{s:Shared}{K:W.Frag}{x dx C f:Addr}{mA:NX}{name:Str}{v:Value}
def get_map {expr:Bool}(X:K.In s.heap)(I:ur s.heap x dx C mA)(hg:W.plainGet K C name=true)(hh:W.hasDictIn K C=true)
  (ha:W.findIn K (.ref C) name=some none) (hv:mA name=some v) (hv':W.handedIn v=true) (h:Q v { s with toks:=s.toks+1 }):
  wpAny (model prog w) A (getAttr (.ref x) name expr) Q E s:=by
 obtain⟨od,J,hl⟩:=I.look;exact W.get_value X J (W.plainGet_of hg).1 (W.findObj_own hh ha rfl (by rw[hl,hv])) hv' h
def Ap {Q:Value×List Value->Shared->Prop}(X:K.In s.heap)(I:ur s.heap x dx C mA)(hg:W.plainGet K C name=true)
  (hf:W.findIn K (.ref C) name=some (some (.ref f))) (ht:W.isFn K (.ref f)=true) (hv:mA name=none) (h:Q (.ref f,[.ref x]) s):
  wpAny (model prog w) A (getMethod (.ref x) name pl) Q E s:=by
 obtain⟨od,J,hl⟩:=I.look;exact W.method_fn X J (W.plainGet_of hg).1 (W.plainGet_of hg).2 hf (beq_iff_eq.mp ht) (by show(W.lookIn name od).map (·.isSome)=some false;rw[hl,hv];rfl) h
def DQ {ns:List Str}{Q:NU}(X:K.In s.heap)(I:ur s.heap x dx C mA)
  (hs:W.findIn K (.ref C) "__setattr__"=some (some (.builtin "object.__setattr__"))) (hp:W.plainOver K C=true) (ht:W.takerIn K C name=some none) (hh:W.hasDictIn K C=true)
  (hw:PySem.Within mA ns) (hsz:ns.length<=bv)
  (h:∀ h',ur h' x dx C (λy=>if y=name then some v else mA y)->Heap.SameBut dx s.heap h'->Q () { s with heap:=h',toks:=s.toks+2 }):
  wpAny (model prog w) A (setAttr (.ref x) name v) Q E s:=by
 obtain⟨od,J,hl⟩:=I.look;refine W.set_plain X J hs (W.osa_open (s:={ s with toks:=s.toks+1 }) (r:=none) X J hp ht λb=>?_);obtain⟨cd,hc,hd'⟩:=W.any_some hh;have hx:s.heap.get? x=some ⟨.ref C,some dx,.plain,#[]⟩:=I.obj;refine ad (am (ad (ad (wpAny_loadPart hx (ad (W.Looks.here (s:={ s with toks:=s.toks+1 }) (W.looks_clsIn X hc) ?_))))));rw[hd'];refine am (a:=some dx) (ad (am (ad ?_)));refine wpAny_nsSet1 (s:={ s with toks:=s.toks+1 }) I.ns λh' hn2 hs2=>?_
 obtain⟨oD,esD,epD,hoD,hdD,hcD⟩:=hn2.count (PySem.Within.cons name v hw);refine ad (wpAny_lookBehind hoD (by rw[hdD];exact pastItsLine_dict (Nat.le_trans hcD (by rw[length_cons];omega))) ?_);exact am (h _ ⟨(hs2.2 _ (Ne.symm I.ne)).trans I.obj,hn2,I.ne⟩ hs2)
def Be {R:Result->Shared->Prop}{vs:List Value}(X:K.In s.heap)(hm:W.makesIn K C=true)
  (hi:W.findIn K (.ref C) "__init__"=some (some (.ref f))) (hf:W.typeIn K (.ref f)=some (.type "function"))
  (h:codeAny (model prog w) (A.under (.builtin "type.__call__" ⟨.ref C::vs,kw⟩)) (.call (.ref f) ⟨.ref (s.heap.objs.size+1)::vs,kw⟩) (W.InitBack (s.heap.objs.size+1) R)
   { s with heap:=(s.heap.push W.emptyDict).push (W.instObj C s.heap.objs.size) }):
  codeAny (model prog w) A (.call (.ref C) ⟨vs,kw⟩) R s:=by
 obtain⟨hh,g,d,t,os⟩:=s;exact W.make_core (W.makes_of X hm) (W.looks_findIn X hi) (λself=>W.bind_fn X self hf) (.inl rfl) h
end
abbrev cY (f:Str)(v:V):List (Str×V)->List (Str×V)
 | []=>[(f,v)]
 |(g,x)::r=>if g=f then(g,v)::r else(g,x)::cY f v r
def eO (f g:Str)(v:V):∀ fs:List (Str×V),(cY f v fs).lookup g=if g=f then some v else fs.lookup g
 | []=>by
  show List.lookup g [(f,v)]=_
  by_cases h:g=f
  .have hb:(g ==f)=true:=beq_iff_eq.mpr h;simp only[List.lookup,hb,if_pos h]
  .have hb:(g ==f)=false:=beq_eq_false_iff_ne.mpr h;simp only[List.lookup,hb,if_neg h]
 |(k,x)::r=>by
  have ih:=eO f g v r;rw[show cY f v ((k,x)::r)=(if k=f then(k,v)::r else(k,x)::cY f v r) from rfl]
  by_cases hk:k=f
  .rw[if_pos hk]
   by_cases h:g=k
   .have hb:(g ==k)=true:=beq_iff_eq.mpr h;simp only[List.lookup,hb,if_pos (h.trans hk)]
   .have hb:(g ==k)=false:=beq_eq_false_iff_ne.mpr h;simp only[List.lookup,hb,if_neg (λe:g=f=>h (e.trans hk.symm))]
  .rw[if_neg hk]
   by_cases h:g=k
   .have hb:(g ==k)=true:=beq_iff_eq.mpr h;simp only[List.lookup,hb,if_neg (λe:g=f=>hk (h.symm.trans e))]
   .have hb:(g ==k)=false:=beq_eq_false_iff_ne.mpr h;simp only[List.lookup,hb];exact ih
def dB (f:Str)(v:V):∀ fs:List (Str×V),f ∈ (cY f v fs).map (·.1)/\∀ g,g ∈ fs.map (·.1)->g ∈ (cY f v fs).map (·.1)
 | []=>⟨by simp[cY],λg h=>by simp at h⟩
 |(k,x)::r=>by
  obtain⟨i1,i2⟩:=dB f v r;rw[show cY f v ((k,x)::r)=(if k=f then(k,v)::r else(k,x)::cY f v r) from rfl]
  by_cases hk:k=f
  .rw[if_pos hk];subst hk;exact⟨by simp,λg h=>by simpa using h⟩
  .rw[if_neg hk];refine⟨?_,λg h=>?_⟩
   .rw[map_cons];exact dL _ i1
   .rw[map_cons]at h⊢;rcases nw.mp h with e|e
    .exact nw.mpr (.inl e)
    .exact dL _ (i2 g e)
def fH (f:Str)(v:V):∀ fs:List (Str×V),(cY f v fs).length<=fs.length+1
 | []=>by simp[cY]
 |(k,x)::r=>by
  have ih:=fH f v r;rw[show cY f v ((k,x)::r)=(if k=f then(k,v)::r else(k,x)::cY f v r) from rfl]
  by_cases hk:k=f
  .rw[if_pos hk,length_cons,length_cons];omega
  .rw[if_neg hk,length_cons,length_cons];omega
def dq.some_of {o:Option Value}(r:dq (some v) o):∃ u,o=some u/\RelV v u:=by
 cases o with
 |none=>exact(show False from r).elim
 |some u=>exact⟨u,rfl,r⟩
def dq.none_of {o:Option Value}(r:dq none o):o=none:=by
 cases o with
 |none=>rfl
 |some u=>exact(show False from r).elim
def nJ (r:RelV v u):W.handedIn u=true:=by
 cases v with
 |non=>cases(show u=Value.none from r);rfl
 |bl b=>cases(show u=Value.bool b from r);rfl
 |int i=>obtain⟨t,e⟩:=(show ∃ t,u=Value.int i t from r);cases e;rfl
 |str x=>obtain⟨t,e⟩:=(show ∃ t,u=Value.str x t from r);cases e;rfl
 |byt b=>obtain⟨t,e⟩:=(show ∃ t,u=Value.bytes b t from r);cases e;rfl
 |flt b=>obtain⟨t,e⟩:=(show ∃ t,u=Value.float b t from r);cases e;rfl
 |ref a=>cases(show u=Value.ref a from r);rfl
 |ty n=>cases(show u=Value.type n from r);rfl
section
variable {P:Program}{w:World}{H H':Hp}{h h':Heap}{a C dx:Addr}{fs fs':List (Str×V)}
def ig (hok:hE P w H h)(e:H a=some (.ins C dx fs)):∃ mA,ur h a dx C mA/\(∀ f,dq (fs.lookup f) (mA f))/\PySem.Within mA (fs.map (·.1))/\fs.length<=1000/\H dx=some (.own a):=by
 obtain⟨d,z,ne,ob,mA,n,r,q⟩:=(show aP P w H h a (.ins C dx fs) from hok a _ e);exact⟨mA,⟨ob,n,ne⟩,r,q,z,d⟩
end
structure C5 (K:W.Frag) (C:Addr):Prop where
 pg:W.plainGet K C Str.empty=true
 hd:W.hasDictIn K C=true
 po:W.plainOver K C=true
 sa:W.findIn K (.ref C) "__setattr__"=some (some (.builtin "object.__setattr__"))
def C5.get (c:C5 K C)(f:Str):W.plainGet K C f=true:=c.pg
abbrev fm (K:W.Frag)(C:Addr)(f:Str):Prop:=W.findIn K (.ref C) f=some none
def fm.Kf {f:Str}(n:fm K C f):W.takerIn K C f=some none:=by
 unfold W.takerIn;rw[show W.findIn K (.ref C) f=some none from n]
 rfl
structure Meth (K:W.Frag) (C:Addr) (m:Str) (f:Addr):Prop where
 at_:W.findIn K (.ref C) m=some (some (.ref f))
 fn:W.isFn K (.ref f)=true
 kp:W.keepIn K (.ref f)=true
section
variable {X:Cx}{Y:NW}{U:St}{H:Hp}{s:Shared}{a C dx:Addr}{fs:List (Str×V)}{f:Str}{v:V}{A:Around}{E:NV}
def uH {b:Bool}(I:Inv X Y U H s)(e:H a=some (.ins C dx fs))(c:C5 X.K C)(n:fm X.K C f)(l:fs.lookup f=some v)
  (h:∀ u s',Inv X Y U H s'->RelV v u->Q u s'):wpAny (model X.prog X.w) A (getAttr (.ref a) f b) Q E s:=by
 obtain⟨mA,O,r,_,_,_⟩:=ig I.hok e;obtain⟨u,hu,ru⟩:=dq.some_of (v:=v) (o:=mA f) (by rw[<-l];exact r f);exact get_map I.bV O (c.get f) c.hd n hu (nJ ru) (h u _ (I.tok _) ru)
def uZ {m:Str}{g:Addr}{Q:Value×List Value->Shared->Prop}(I:Inv X Y U H s)(e:H a=some (.ins C dx fs))(c:C5 X.K C)(k:Meth X.K C m g)(l:fs.lookup m=none)
  (h:Q (.ref g,[.ref a]) s):wpAny (model X.prog X.w) A (getMethod (.ref a) m pl) Q E s:=by
 obtain⟨mA,O,r,_,_,_⟩:=ig I.hok e;have hn:mA m=none:=dq.none_of (by rw[<-l];exact r m);exact Ap I.bV O (c.get m) k.at_ k.fn hn h
def uL {y:V}{Q:NU}(I:Inv X Y U H s)(e:H a=some (.ins C dx fs))(c:C5 X.K C)(n:fm X.K C f)(hl:fs.length<1000)(ry:RelV y u)
  (h:∀ s',Inv X Y U (upd H a (.ins C dx (cY f y fs))) s'->Q () s'):wpAny (model X.prog X.w) A (setAttr (.ref a) f u) Q E s:=by
 obtain⟨mA,O,r,wi,_,ho⟩:=ig I.hok e;have hz:(fs.map (·.1)).length<=bv:=by rw[ci,sizeLine_eq];omega
 refine DQ I.bV O c.sa c.po n.Kf c.hd wi hz λh' O' sb=>h _ ?_
 have hd:∃ o,h'.get? dx=some o:=let⟨o,_,_,e',_⟩:=O'.ns;⟨o,e'⟩;refine I.write (x:=a) (e:=dx) (by rw[e];exact True.intro) (.inr ho) (λb q hb z=>(sb.2 b hb).trans z) hd ?_;refine⟨by rw[aj O.ne];exact ho,?_,O.ne,O'.obj,_,O'.ns,λg=>?_,λg hg=>?_⟩
 .have:=fH f y fs;omega
 .show dq ((cY f y fs).lookup g) (if g=f then some u else mA g);rw[eO]
  by_cases q:g=f
  .rw[if_pos q,if_pos q];exact ry
  .rw[if_neg q,if_neg q];exact r g
 .by_cases q:g=f
  .rw[q];exact(dB f y fs).1
  .refine(dB f y fs).2 g (wi g λz=>hg ?_);show(if g=f then some u else mA g)=none;rw[if_neg q];exact z
def Inv.made (I:Inv X Y U H s):Inv X Y U (upd (upd H s.heap.objs.size (.own (s.heap.objs.size+1))) (s.heap.objs.size+1) (.ins C s.heap.objs.size []))
  { s with heap:=(s.heap.push W.emptyDict).push (W.instObj C s.heap.objs.size) }:=by
 have e1:(s.heap.push W.emptyDict).get? s.heap.objs.size=some W.emptyDict:=v4 s.heap rfl;have e2:((s.heap.push W.emptyDict).push (W.instObj C s.heap.objs.size)).get? (s.heap.objs.size+1)=some (W.instObj C s.heap.objs.size):=by
  have:=v4 (s.heap.push W.emptyDict) (o:=W.instObj C s.heap.objs.size) rfl
  rwa [Heap.size_push]at this
 have e3:(s.heap.push W.emptyDict).Ns s.heap.objs.size (λ_=>none):=⟨W.emptyDict,#[],_,e1,rfl,(λe he=>absurd he (by simp)),λ_=>rfl⟩;have I1:=I.laid (a:=s.heap.objs.size) (o:=.own (s.heap.objs.size+1)) (h':=s.heap.push W.emptyDict) (t':=s.toks) (λb u q=>ut _ q) (sw _) ⟨_,e1⟩;refine I1.laid (a:=s.heap.objs.size+1) (o:=.ins C s.heap.objs.size []) (t':=s.toks) (λb u q=>ut _ q) (Nat.le_of_eq (Heap.size_push _ _)) ?_;have ne:s.heap.objs.size≠s.heap.objs.size+1:=sn (Nat.lt_succ_self _);refine⟨by rw[aj ne,aE],Nat.zero_le _,ne,e2,λ_=>none,(Heap.Ns1.of_empty e3).at λo q=>ut _ q,λ_=>True.intro,λy hy=>absurd rfl hy⟩
def DI {prog:Program}{env:Env}(hb:attributeBase e f env (eval e env)=eval e env)
  (h:wpAny (model prog w) A (eval e env) (λo s₁=>wpAny (model prog w) A (getAttr o f true) Q E s₁) E s):wpAny (model prog w) A (eval (.Attribute e f pos) env) Q E s:=
 Attribute_any_ h (by rw[arm_eval_Attribute,hb])
end
section
variable {X:Cx}{o e value:Expr}{f:Str}{pos pos' tpos:Pos}{ta tv:TE}
end
section
variable {X:Cx}{Y:NW}{U:St}{H:Hp}{s:Shared}{A:Around}{E:NV}{Q:NV}{c:Value}{b:Bool}
inductive jB (K:W.Frag) (H:Hp):V->Value->Prop where
 |non:jB K H .non (.type "NoneType")
 |bl (x:Bool):jB K H (.bl x) (.type "bool")
 |int (i:Int):jB K H (.int i) (.type "int")
 |str (x:Str):jB K H (.str x) (.type "str")
 |flt (x:UInt64):jB K H (.flt x) (.type "float")
 |lst {a:Addr}{xs:List V}(e:H a=some (.lst xs)):jB K H (.ref a) (.type "list")
 |frz {a:Addr}{o:Obj}{xs:List V}(e:H a=some (.frz o (.lst xs))):jB K H (.ref a) (.type "list")
 |tup {a:Addr}{xs:List V}(e:H a=some (.tup xs)):jB K H (.ref a) (.type "tuple")
 |dK {a:Addr}{kvs:List (Key×V)}(e:H a=some (.dK kvs)):jB K H (.ref a) (.type "dict")
 |dT {a:Addr}{kvs:List (List Key×V)}(e:H a=some (.dT kvs)):jB K H (.ref a) (.type "dict")
 |ins {a C dx:Addr}{fs:List (Str×V)}(e:H a=some (.ins C dx fs)) (cl:C5 K C) (ha:W.findIn K (.ref C) "__class__"=some (some (.builtin "object.__class__")))
   (hn:W.specialIn K (.builtin "object.__class__") "__get__"=some (some (.builtin "getset_descriptor.__get__"))) (htk:W.takesIn K (.builtin "object.__class__")=some true)
   (hm:W.mroIn K C (.type "object")=some true):jB K H (.ref a) (.ref C)
def jA {x:V}{t:Value}(I:Inv X Y U H s)(rx:RelV x u)(ty:jB X.K H x t)(e:W.kitOne X.K t c=some b)(h:∀ tk,Q (.bool b) { s with toks:=tk }):
  wpAny (model X.prog X.w) A (call (.builtin "isinstance") [u,c]) Q E s:=by
 cases ty with
 |non=>cases(show u=Value.none from rx);exact W.kia_one W.kitx_none I.bV True.intro e (λz=>nomatch z) h
 |bl y=>cases(show u=Value.bool y from rx);exact W.kia_one W.kitx_bool I.bV True.intro e (λz=>nomatch z) h
 |int i=>obtain⟨t,q⟩:=(show ∃ t,u=Value.int i t from rx);cases q;exact W.kia_one W.kitx_int I.bV True.intro e (λz=>nomatch z) h
 |str y=>obtain⟨t,q⟩:=(show ∃ t,u=Value.str y t from rx);cases q;exact W.kia_one W.kitx_str I.bV True.intro e (λz=>nomatch z) h
 |flt y=>obtain⟨t,q⟩:=(show ∃ t,u=Value.float y t from rx);cases q;exact W.kia_one W.kitx_float I.bV True.intro e (λz=>nomatch z) h
 | @lst a xs ea=>
  cases(show u=Value.ref a from rx);obtain⟨_,_,n,_,h1⟩:=(show aP X.prog X.w H s.heap a (.lst xs) from I.hok a _ ea);exact W.kia_one W.kitx_list I.bV ⟨_,h1,rfl⟩ e (λz=>nomatch z) h
 | @frz a ob xs ea=>
  cases(show u=Value.ref a from rx);obtain⟨_,_,_,n,_,h1⟩:=(show aP X.prog X.w H s.heap a (.frz ob (.lst xs)) from I.hok a _ ea);exact W.kia_one W.kitx_list I.bV ⟨_,h1,rfl⟩ e (λz=>nomatch z) h
 | @tup a xs ea=>
  cases(show u=Value.ref a from rx);obtain⟨_,_,_,p⟩:=(show aP X.prog X.w H s.heap a (.tup xs) from I.hok a _ ea);obtain⟨o,h1,h2,_⟩:=p;exact W.kia_one W.kitx_tuple I.bV ⟨o,h1,h2⟩ e (λz=>nomatch z) h
 | @dK a kvs ea=>
  cases(show u=Value.ref a from rx);obtain⟨_,_,vs,_,p⟩:=(show aP X.prog X.w H s.heap a (.dK kvs) from I.hok a _ ea);obtain⟨o,es,ep,h1,h2,_⟩:=p;exact W.kia_one W.kitx_dict I.bV ⟨o,h1,h2.1⟩ e (λz=>nomatch z) h
 | @dT a kvs ea=>
  cases(show u=Value.ref a from rx);obtain⟨_,_,xs,_,o,es,ep,h1,h2,_⟩:=(show aP X.prog X.w H s.heap a (.dT kvs) from I.hok a _ ea);exact W.kia_one W.kitx_dict I.bV ⟨o,h1,h2.1⟩ e (λz=>nomatch z) h
 | @ins a C dx fs ea cl ha hn htk hm=>
  cases(show u=Value.ref a from rx);obtain⟨mA,O,_⟩:=ig I.hok ea;obtain⟨od,J,_⟩:=O.look;exact W.kia_one (W.kitx_own (cl.get _) cl.hd ha hn htk hm) I.bV J e (λz=>nomatch z) h
end
structure bO (k:Nat) (A:Around):Prop where
 hd:A.handled=none
 dp:A.depth+3*k+5<recursionLimit
 un:A.units+16*k+200<cLine
def bO.mono {j:Nat}(r:bO k A)(h:j<=k):bO j A:=⟨r.hd,by have:=r.dp;omega,by have:=r.un;omega⟩
def bO.deeper (r:bO (k+1) A)(env:Env):bO k (A.deeper env):=
 ⟨r.hd,by have:=r.dp;show A.depth+1+3*k+5<_;omega,by have:=r.un;show A.units+3+16*k+200<_;omega⟩
def uj:(A.under (.builtin "type.__call__" ⟨.ref C::us,kw⟩)).depth=A.depth+1:=by
 first|rfl|simp[Around.under,Code.weight,Code.isCreation,Code.isGuard,Code.isCaller,Code.frames,Code.isFrame,guardIds]
def t9:(A.under (.builtin "type.__call__" ⟨.ref C::us,kw⟩)).units=A.units+1:=by
 first|rfl|simp[Around.under,Code.cUnits,Code.frames,Code.isFrame]
def bO.make (r:bO (k+1) A)(C:Addr)(us:List Value)(kw:List (Str×Value)):bO k (A.under (.builtin "type.__call__" ⟨.ref C::us,kw⟩)):=
 ⟨r.hd,by have:=r.dp;rw[uj];omega,by have:=r.un;rw[t9];omega⟩
def bO.depth (r:bO k A):A.depth<recursionLimit:=by have:=r.dp;omega
abbrev Cd:TA:=λ_ H Q=>Q [] H
abbrev EG (ta:TE)(tr:TA):TA:=λU H Q=>ta U H λx H1=>tr U H1 λxs H2=>Q (x::xs) H2
section
variable {X:Cx}{e:Expr}{es:List Expr}{te:TE}{t:TA}{pos:Pos}
def ei:PA X [] Cd:=λ_ _ _ _ H Q I h=>Calls.spliced_nil ⟨[],H,I,.nil,h⟩
def Dx (ha:PE X e te)(hr:PA X es t)(hs:bn (e::es) X.env=(false,eval e X.env)::bn es X.env:=by rfl):PA X (e::es) (EG te t):=by
 intro pos Y s U H Q I h;rw[hs];show wpAny _ _ (spliced ((false,eval e X.env)::backTo pos (bn es X.env))) _ _ s;refine Calls.spliced_cons (aD (ha Y s U H _ I h) λu s1 ⟨x,H1,I1,r1,q1⟩=>?_);exact aD (hr pos Y s1 U H1 _ I1 q1) λus s2 ⟨xs,H2,I2,r2,q2⟩=>⟨x::xs,H2,I2,.cons r1 r2,q2⟩
abbrev MK (t:TA):TE:=λU H Q=>t U H λxs H1=>xs.length<=bv/\∀ p,H1 p=none->Q (.ref p) (upd H1 p (.tup xs))
abbrev Mo (t:TA):TE:=λU H Q=>t U H λxs H1=>xs.length<=bv/\∀ p,H1 p=none->Q (.ref p) (upd H1 p (.lst xs))
def HH {x1} (h:PA X es t):PE X (.Tuple es x1 pos) (MK t):=by
 intro Y s U H Q I hq;refine wpAny_Tuple_spliced (aD (h pos Y s U H _ I hq) λus s1 ⟨xs,H1,I1,r,z,q⟩=>⟨by rw[<-r.length];exact z,?_⟩);have hf:H1 s1.heap.objs.size=none:=I1.hok.fresh (sw _);refine⟨.ref s1.heap.objs.size,upd H1 s1.heap.objs.size (.tup xs),I1.laid (t':=s1.toks) (λb u e=>ut _ e) (sw _) ?_,rfl,q _ hf⟩;exact⟨z,us,r,⟨_,v4 _ rfl,rfl,_,rfl⟩⟩
def HQ (h:PA X es t):PE X (.List es pos) (Mo t):=by
 intro Y s U H Q I hq;refine wpAny_List_spliced (aD (h pos Y s U H _ I hq) λus s1 ⟨xs,H1,I1,r,z,q⟩=>⟨by rw[<-r.length];exact z,?_⟩);have hf:H1 s1.heap.objs.size=none:=I1.hok.fresh (sw _);refine⟨.ref s1.heap.objs.size,upd H1 s1.heap.objs.size (.lst xs),I1.laid (t':=s1.toks) (λb u e=>ut _ e) (sw _) ?_,rfl,q _ hf⟩;exact⟨z,us,0,r,v4 _ rfl⟩
end
@[reducible]def Sp:=List V->Hp->VK->XK->Prop
@[reducible]def uD:=List Env->Hp->Shared->XK->Value->Shared->Prop
structure uc (P:Program) (w:World) (K:W.Frag) (mg:NX) (base:Heap) (A:Around) (outer:List Env) (s:Shared) (H:Hp):Prop where
 frames:A.frames=some outer
 mod:Mod K mg base
 bs:∀ b o,base.get? b=some o->s.heap.get? b=some o/\H b=none
 bsz:base.objs.size<=s.heap.objs.size
 kO:s.heap.FunFrames base outer
 frf:∀ b ∈ qh outer,H b=none
 hok:hE P w H s.heap
 bare:AllBare s.gens
abbrev CE (outer:List Env)(P:Program)(w:World)(H:Hp)(s:Shared)(Q:VK)(u:Value)(s':Shared):Prop:=
 ∃ v H',s'.os=s.os/\AllBare s'.gens/\Un (qh outer) [] H H' s.heap s'.heap/\hE P w H' s'.heap/\RelV v u/\Q v H'
abbrev CR (CX:uD)(outer:List Env)(P:Program)(w:World)(H:Hp)(s:Shared)(Q:VK)(E:XK)(r:Result)(s':Shared):Prop:=
 match r with
 | .ok (.ret u)=>CE outer P w H s Q u s'
 | .ok _=>False
 | .error e=>CX outer H s E e s'
structure dr (P:Program) (w:World) (K:W.Frag) (mg:NX) (base:Heap) (CX:uD) (k:Nat) (f:Addr) (fd:FuncData) (ps:List Str) (sp:Sp):Prop where
 len:∀ vs H Q E,sp vs H Q E->vs.length=ps.length
 run:∀ (A:Around) (outer:List Env) (s:Shared) (H:Hp) (args:Args) (us:List Value) (vs:List V) (Q:VK) (E:XK),bO k A->uc P w K mg base A outer s H->BindsTo s fd args (ps.zip us)->Vals vs us->sp vs H Q E->
  codeAny (model P w) A (.call (.ref f) args) (CR CX outer P w H s Q E) s
variable {mg:NX}{base:Heap}{CX:uD}{fd:FuncData}{ps:List Str}
def dr.imp {f:Addr}{sp sp':Sp}(F:dr P w K mg base CX k f fd ps sp)
  (h:∀ vs H Q E,sp' vs H Q E->sp vs H Q E):dr P w K mg base CX k f fd ps sp':=
 ⟨λvs H Q E q=>F.len vs H Q E (h _ _ _ _ q),λA outer s H args us vs Q E hr he hb hv hs=>F.run A outer s H args us vs Q E hr he hb hv (h _ _ _ _ hs)⟩
variable {outer:List Env}
def uc.make (e:uc P w K mg base A outer s H)(C:Addr)(us:List Value)(kw:List (Str×Value)):
  uc P w K mg base (A.under (.builtin "type.__call__" ⟨.ref C::us,kw⟩)) outer s H:=⟨by first|exact e.frames|(simpa[Around.under,Code.envs,Code.isFrame,pushEnvs] using e.frames),e.mod,e.bs,e.bsz,e.kO,e.frf,e.hok,e.bare⟩
section
variable {X:Cx}{Y:NW}{U:St}{H:Hp}{s s':Shared}
def Inv.ji (I:Inv X Y U H s):uc X.prog X.w X.K X.mg X.base X.A X.stack s H:=
 ⟨I.ok.frames,I.ok.mod,I.bs,Nat.le_trans I.ok.bsz I.sz,I.stack,I.qz,I.hok,I.bare⟩
def Inv.after {Q:VK}(I:Inv X Y U H s)(h:CE X.stack X.prog X.w H s Q u s'):EP X Y U Q u s':=by
 obtain⟨v,H',os,bare,un,hok,r,q⟩:=h;obtain⟨hh,g,d,t,os'⟩:=s';obtain rfl:os'=s.os:=os;exact⟨v,H',I.call (h':=hh) (g':=g) (d':=d) (t':=t) (ch:=[]) un hok bare (λb z=>absurd z (by simp)),r,q⟩
end
abbrev Aa (sp:Sp)(dvs:List V)(E:St->XK)(t:TA):TE:=λU H Q=>t U H λvs H1=>sp (vs++dvs) H1 Q (E U)
abbrev EX (C:Addr)(sp:Sp)(dvs:List V)(E:St->XK)(t:TA):TE:=λU H Q=>t U H λvs H1=>∀ x dx,H1 x=none->H1 dx=none->dx≠x->
 sp (.ref x::(vs++dvs)) (upd (upd H1 dx (.own x)) x (.ins C dx [])) (λv H2=>v=.non/\Q (.ref x) H2) (E U)
abbrev Binds (K:W.Frag)(fd:FuncData)(ps:List Str)(ds:List Value):Prop:=
 ∀ (s:Shared) (us:List Value),K.In s.heap->(us++ds).length=ps.length->BindsTo s fd ⟨us,[]⟩ (ps.zip (us++ds))
def Binds.all (h:∀ us:List Value,us.length=ps.length->bindArgs fd ⟨us,[]⟩=pure (ps.zip us)):Binds K fd ps []:=λs us _ hl=>by
 rw[append_nil]at hl⊢;exact .of_eq (h us hl)
abbrev Passes (CX:uD)(X:Cx)(E:St->XK):Prop:=∀ (Y:NW) (U:St) (H:Hp) (s:Shared) (e:Value) (s':Shared),Inv X Y U H s->CX X.stack H s (E U) e s'->X.xe e s'
variable {vs:List V}
section
variable {X:Cx}{CX:uD}{k:Nat}{f C:Addr}{fd:FuncData}{ps:List Str}{sp:Sp}{dvs:List V}{ds:List Value}{E:St->XK}{x m:Str}{p pos apos:Pos}{e o:Expr}{es:List Expr}{ta:TE}{t:TA}
def l6 {Q:VK}(F:dr X.prog X.w X.K X.mg X.base CX k f fd ps sp)(hr:bO k X.A)(hb:Binds X.K fd ps ds)(hd:Vals dvs ds)(hx:Passes CX X E)
  (I:Inv X Y U H s) (r:Vals vs us) (h:sp (vs++dvs) H Q (E U)):wpAny (model X.prog X.w) X.A (call (.ref f) us) (EP X Y U Q) X.xe s:=by
 have r2:Vals (vs++dvs) (us++ds):=r.append hd;have hl:(us++ds).length=ps.length:=by rw[<-r2.length];exact F.len _ _ _ _ h
 refine wpAny_call (codeAny_mono (F.run X.A X.stack s H ⟨us,[]⟩ (us++ds) (vs++dvs) Q (E U) hr I.ji (hb s us I.bV hl) r2 h) λr s' hq=>?_);cases r with
 |error e=>exact hx Y U H s e s' I hq
 |ok fl=>
  cases fl with
  |ret u=>exact I.after hq
  |next=>exact False.elim hq
  |brk=>exact False.elim hq
  |cont=>exact False.elim hq
def Eg (F:dr X.prog X.w X.K X.mg X.base CX k f fd ps sp)(hr:bO k X.A)(hg:Gl X x)(hm:X.mg x=some (.ref f))(hk:W.keepIn X.K (.ref f)=true)(hb:Binds X.K fd ps ds)(hd:Vals dvs ds)(hx:Passes CX X E)
  (ha:PA X (e::es) t) (hdb:(x ==("__debug__":Str))=false:=by decide) (he:bn (e::es) X.env=(false,eval e X.env)::bn es X.env:=by rfl) (hpl:(backTo pos (bn es X.env)).any (·.1)=false:=by rfl):
  PE X (.Call (.Name x p) (e::es) [] pos) (Aa sp dvs E t):=by
 intro Y s U H Q I h;refine ce (bH I hg hm ?_ hdb);refine W.callWith_K (h₀:=X.base) I.ok.mod.kin hk (aD (ha pos Y s U H _ I h) λus s1 ⟨vs,H1,I1,r,q⟩=>⟨I1.bV,?_⟩) he hpl;exact l6 F hr hb hd hx I1 r q
def zG (F:dr X.prog X.w X.K X.mg X.base CX k f fd ps sp)(hr:bO k X.A)(hg:Gl X x)(hm:X.mg x=some (.ref f))(hk:W.keepIn X.K (.ref f)=true)(hb:Binds X.K fd ps ds)(hd:Vals dvs ds)(hx:Passes CX X E)
  (hdb:(x ==("__debug__":Str))=false:=by decide):PE X (.Call (.Name x p) [] [] pos) (Aa sp dvs E Cd):=by
 intro Y s U H Q I h;refine ce (bH I hg hm ?_ hdb);exact W.callWith_K0 I.bV hk (l6 (us:=[]) F hr hb hd hx I .nil h)
structure Mk (K:W.Frag) (C f:Addr):Prop where
 makes:W.makesIn K C=true
 init:W.findIn K (.ref C) "__init__"=some (some (.ref f))
 fn:W.isFn K (.ref f)=true
 kp:W.keepIn K (.ref C)=true
def sC {Q:VK}(M:Mk X.K C f)(F:dr X.prog X.w X.K X.mg X.base CX k f fd ps sp)(hr:bO (k+1) X.A)(hb:Binds X.K fd ps ds)(hd:Vals dvs ds)
  (hx:Passes CX X E) (I:Inv X Y U H s) (r:Vals vs us)
  (h:∀ x dx,H x=none->H dx=none->dx≠x->sp (.ref x::(vs++dvs)) (upd (upd H dx (.own x)) x (.ins C dx [])) (λv H2=>v=.non/\Q (.ref x) H2) (E U)):
  wpAny (model X.prog X.w) X.A (call (.ref C) us) (EP X Y U Q) X.xe s:=by
 have hq:=h (s.heap.objs.size+1) s.heap.objs.size (I.hok.fresh (Nat.le_succ _)) (I.hok.fresh (sw _)) (sn (Nat.lt_succ_self _));have I2:=Inv.made (C:=C) I;have r2:Vals (V.ref (s.heap.objs.size+1)::(vs++dvs)) (Value.ref (s.heap.objs.size+1)::(us++ds)):=.cons rfl (r.append hd);have hl:(Value.ref (s.heap.objs.size+1)::us++ds).length=ps.length:=by
  have e:=r2.length;rw[F.len _ _ _ _ hq]at e;exact e.symm
 refine wpAny_call (Be (f:=f) I.bV M.makes M.init (beq_iff_eq.mp M.fn) (codeAny_mono (F.run _ X.stack _ _ ⟨Value.ref (s.heap.objs.size+1)::us,[]⟩ (Value.ref (s.heap.objs.size+1)::(us++ds)) _ _ (E U) (hr.make C us [])
  (I2.ji.make C us []) (hb _ (Value.ref (s.heap.objs.size+1)::us) I2.bV hl) r2 hq) λr s' hq'=>?_))
 cases r with
 |error e=>exact hx Y U _ _ e s' I2 hq'
 |ok fl=>
  cases fl with
  |ret u=>
   obtain⟨v,H',I3,rv,ev,q3⟩:=I2.after hq';subst ev;exact⟨rv,⟨V.ref (s.heap.objs.size+1),H',I3,rfl,q3⟩⟩
  |next=>exact False.elim hq'
  |brk=>exact False.elim hq'
  |cont=>exact False.elim hq'
def DU (M:Mk X.K C f)(F:dr X.prog X.w X.K X.mg X.base CX k f fd ps sp)(hr:bO (k+1) X.A)(hg:Gl X x)(hm:X.mg x=some (.ref C))(hb:Binds X.K fd ps ds)(hd:Vals dvs ds)(hx:Passes CX X E)
  (ha:PA X (e::es) t) (hdb:(x ==("__debug__":Str))=false:=by decide) (he:bn (e::es) X.env=(false,eval e X.env)::bn es X.env:=by rfl) (hpl:(backTo pos (bn es X.env)).any (·.1)=false:=by rfl):
  PE X (.Call (.Name x p) (e::es) [] pos) (EX C sp dvs E t):=by
 intro Y s U H Q I h;refine ce (bH I hg hm ?_ hdb);refine W.callWith_K (h₀:=X.base) I.ok.mod.kin M.kp (aD (ha pos Y s U H _ I h) λus s1 ⟨vs,H1,I1,r,q⟩=>⟨I1.bV,?_⟩) he hpl;exact sC M F hr hb hd hx I1 r q
def zx (M:Mk X.K C f)(F:dr X.prog X.w X.K X.mg X.base CX k f fd ps sp)(hr:bO (k+1) X.A)(hg:Gl X x)(hm:X.mg x=some (.ref C))(hb:Binds X.K fd ps ds)(hd:Vals dvs ds)(hx:Passes CX X E)
  (hdb:(x ==("__debug__":Str))=false:=by decide):PE X (.Call (.Name x p) [] [] pos) (EX C sp dvs E Cd):=by
 intro Y s U H Q I h;refine ce (bH I hg hm ?_ hdb);exact W.callWith_K0 I.bV M.kp (sC (us:=[]) M F hr hb hd hx I .nil h)
end
section
variable {X:Cx}{CX:uD}{k:Nat}{f C:Addr}{fd:FuncData}{ps ks:List Str}{sp:Sp}{E:St->XK}{x m:Str}{p pos apos kpos:Pos}{e o:Expr}{es:List Expr}{kws:List Keyword}{te ta:TE}{t tk:TA}{nm:Option Str}
variable {g:List Value->List Value->List Value}{gV:List V->List V->List V}
end
structure kS (N P:List Str) (sc:Scope):Prop where
 kind:sc.kind=.function
 co:sc.isCoroutine=false
 gen:sc.isGenerator=false
 nd:N.Nodup
 pre:N.take P.length=P
 par:∀ x ∈ P,sc.names.lookup x=some .local\/sc.names.lookup x=some .cell
 nofree:∀ y ∈ sc.names,y.2≠.free
def nX {kindOf:Str->Option NameKind}{x:Str}:∀ {binds:List (Str×Value)}{m:NX},(∀ v,(x,v) ∉ binds)->bindL kindOf binds m x=m x
 | [],_,_=>rfl
 |(n,v)::r,m,h=>by
  unfold bindL;rw[nX λw hw=>h w (dL _ hw)]
  split
  .have:x≠n:=by rintro rfl;exact h v mo
   simp[this]
  .rfl
def nK {kindOf:Str->Option NameKind}{x:Str}:∀ {binds:List (Str×Value)}{m:NX},(∀ v,(x,v) ∉ binds)->bindC kindOf binds m x=m x
 | [],_,_=>rfl
 |(n,v)::r,m,h=>by
  unfold bindC;rw[nK λw hw=>h w (dL _ hw)]
  split
  .rfl
  .have:x≠n:=by rintro rfl;exact h v mo
   simp[this]
def nY {kindOf:Str->Option NameKind}{x:Str}{v:Value}:∀ {P:List Str}{vs:List Value}{i:Nat}{m:NX},P.Nodup->P[i]? =some x->vs[i]? =some v->kindOf x=some .local->
  bindL kindOf (P.zip vs) m x=some v
 | [],_,_,_,_,h,_,_=>by simp at h
 |_::_,[],_,_,_,_,h,_=>by simp at h
 |p::P,w::vs,0,m,nd,h1,h2,hk=>by
  simp at h1 h2;subst h1;subst h2;show bindL kindOf ((p,w)::P.zip vs) m p=_;unfold bindL;rw[nX λv hv=>(nodup_cons.mp nd).1 (of_mem_zip hv).1,if_pos hk];simp
 |p::P,w::vs,i+1,m,nd,h1,h2,hk=>by
  show bindL kindOf ((p,w)::P.zip vs) m x=_;unfold bindL;exact nY (i:=i) (nodup_cons.mp nd).2 (by simpa using h1) (by simpa using h2) hk
def oZ {kindOf:Str->Option NameKind}{x:Str}{v:Value}:∀ {P:List Str}{vs:List Value}{i:Nat}{m:NX},P.Nodup->P[i]? =some x->vs[i]? =some v->kindOf x≠some .local->
  bindC kindOf (P.zip vs) m x=some v
 | [],_,_,_,_,h,_,_=>by simp at h
 |_::_,[],_,_,_,_,h,_=>by simp at h
 |p::P,w::vs,0,m,nd,h1,h2,hk=>by
  simp at h1 h2;subst h1;subst h2;show bindC kindOf ((p,w)::P.zip vs) m p=_;unfold bindC;rw[nK λv hv=>(nodup_cons.mp nd).1 (of_mem_zip hv).1,if_neg hk];simp
 |p::P,w::vs,i+1,m,nd,h1,h2,hk=>by
  show bindC kindOf ((p,w)::P.zip vs) m x=_;unfold bindC;exact oZ (i:=i) (nodup_cons.mp nd).2 (by simpa using h1) (by simpa using h2) hk
abbrev start (N:List Str)(vs:List V):St:=vs.map some++tz (N.length-vs.length) none
abbrev xJ (CX:uD)(P:Program)(w:World)(K:W.Frag)(mg:NX)(base:Heap)(N:List Str)(qual:Str)(scope:Scope)(f:Addr)(cd:Value)(A:Around)(outer:List Env)(s:Shared)(H:Hp)(E:XK):Cx where
 prog:=P
 w:=w
 K:=K
 mg:=mg
 base:=base
 A:=A.deeper (envOfC qual scope s.heap.objs.size f cd)
 N:=N
 s₀:=s
 H₀:=H
 env:=envOfC qual scope s.heap.objs.size f cd
 outer:=outer
 stack:=envOfC qual scope s.heap.objs.size f cd::outer
 ex:=[]
 calm:=true
 fn:=λ_=>true
 pn:=[]
 xe:=λe s'=>wpAny (model P w) (A.deeper (envOfC qual scope s.heap.objs.size f cd)) (leaving (envOfC qual scope s.heap.objs.size f cd) e) (λ_ s''=>CX outer H s E e s'') (λe' s''=>CX outer H s E e' s'') s'
def rN {sc:Scope}{n:Nat}(h:sc.names.lookup x=some .cell):∃ c,(cellsFrom n sc.names []).lookup x=some c:=by
 have q:=W.cellsFrom_some sc.names n [] (.inl h);exact Option.isSome_iff_exists.mp q
variable {scope:Scope}
def xR {N:List Str}{qual:Str}{f:Addr}{cd:Value}{s1:Shared}{E:XK}
  (S:kS N ps scope) (hd:A.handled=none) (e0:uc P w K mg base A outer s H) (hl:vs.length=ps.length) (r:Vals vs us)
  (x:InCallC s s.heap.objs.size (bindL (envOfC qual scope s.heap.objs.size f cd).kindOf (ps.zip us) λ_=>none) (cellsFrom (s.heap.objs.size+1) scope.names []) (bindC (envOfC qual scope s.heap.objs.size f cd).kindOf (ps.zip us) λ_=>none) s1):
  Inv (xJ CX P w K mg base N qual scope f cd A outer s H E) [] (start N vs) H s1:=by
 have hpl:ps.length<=N.length:=by have:=congrArg List.length S.pre;rw[dl]at this;omega
 obtain⟨h1,tk,rfl,hk⟩:=x.done;have Ck:∀ b:Addr,b ∉ (xJ CX P w K mg base N qual scope f cd A outer s H E).ex:=λb z=>absurd (show b ∈ ([]:List Addr) from z) (by simp)
 refine⟨⟨e0.mod,S.kind,rfl,rfl,sw _,λy z c h1 h2=>?_,λy hy=>?_,λy c _ h=>?_,λ_=>hd,Around.frames_deeper e0.frames,.inr ⟨rfl,rfl⟩,λb z=>absurd z (Ck b),e0.bs,e0.bsz,λb _ _=>Ck b,λb z=>absurd z (Ck b),e0.kO,e0.frf⟩,
  rfl,e0.bare,Un.kept hk,⟨_,x.toInCall.ns,λi y v h1 h2 h3=>?_⟩,λy c h=>⟨_,x.cell y c h⟩,e0.hok.fresh (sw _),λy c h=>?_,λp hp=>absurd (show p ∈ ([]:NW) from hp) (by simp),e0.hok.kept hk,?_⟩
 .exact name_of_addr x.apart (PySem.mem_of_lookup h1) (PySem.mem_of_lookup h2)
 .have hy:scope.names.lookup y=some .cell\/scope.names.lookup y=some .free:=hy;rcases hy with hy|hy
  .exact rN hy
  .exact absurd rfl (S.nofree _ (PySem.mem_of_lookup hy))
 .exact Nat.le_of_lt (x.above y c (PySem.mem_of_lookup h))
 .have hi:i<vs.length:=by
   unfold start at h2
   by_cases hi:i<vs.length
   .exact hi
   .rw[getElem?_append_right (by simpa using hi)]at h2;rw[List.getElem?_replicate]at h2
    split at h2<;>cases h2
  have ha:vs[i]? =some v:=by
   unfold start at h2;rw[List.getElem?_append_left (by simpa using hi),io]at h2;cases e:vs[i]? with
   |none=>rw[e]at h2;cases h2
   |some a=>rw[e]at h2;cases h2;rfl
  obtain⟨u,hu,rv⟩:=r.get ha;have hp:ps[i]? =some y:=by
   rw[<-S.pre,List.getElem?_take_of_lt nofun];exact h1
  have ndP:ps.Nodup:=by rw[<-S.pre];exact S.nd.sublist (take_sublist _ _)
  refine⟨u,rv,?_⟩;rcases S.par y (db hp) with k|k
  .exact .inl ⟨k,nY ndP hp hu k⟩
  .obtain⟨c,e⟩:=rN (n:=s.heap.objs.size+1) k;refine .inr ⟨.inl k,c,e,?_⟩;have q:=x.cell y c e;rw[oZ ndP hp hu (by show scope.names.lookup y≠_;rw[k];decide)]at q;exact q
 .exact e0.hok.fresh (Nat.le_of_lt (x.above y c (PySem.mem_of_lookup h)))
 .unfold start;show _=N.length;rw[cr,ci,length_replicate]
  omega
def JO {f:Addr}{name qual:Str}{params:Arguments}{dV kV doc pm cdv ct oc:Value}{an od:Option Addr}
  {osl:Array (Option Value)}{N:List Str}{sp:Sp}(lk:K.lookup f=some ⟨oc,od,.func (W.fnOf name qual params body scope dV kV doc pm an cdv ct),osl⟩) (hcd:W.codeIn K cdv qual=true) (S:kS N ps scope)
  (len:∀ vs H Q E,sp vs H Q E->vs.length=ps.length)
  (hbody:∀ (A:Around) (outer:List Env) (s:Shared) (H:Hp) (vs:List V) (Q:VK) (E:XK),bO k (A.deeper (envOfC qual scope s.heap.objs.size f cdv))->sp vs H Q E->
   ∃ t,Fe (xJ CX P w K mg base N qual scope f cdv A outer s H E) body t/\t { nx:=λ_ H'=>Q .non H',rt:=Q } (start N vs) H):
  dr P w K mg base CX (k+1) f (W.fnOf name qual params body scope dV kV doc pm an cdv ct) ps sp:=by
 refine⟨len,λA outer s H args us vs Q E hr e0 hb r hsp=>?_⟩;have hl:=len _ _ _ _ hsp;have KX:K.In s.heap:=e0.mod.kin.keeps λb o e=>(e0.bs b o e).1
 have lim:s.heap.NoLimit:=e0.mod.nolimit.keeps λb o e=>(e0.bs b o e).1
 have hkind:∀ y ∈ ps.zip us,scope.names.lookup y.1=some .local\/(scope.names.lookup y.1=some .cell/\((cellsFrom (s.heap.objs.size+1) scope.names []).lookup y.1).isSome=true):=λ⟨n,v⟩ hy=>by
  rcases S.par n (of_mem_zip hy).1 with q|q
  .exact .inl q
  .exact .inr ⟨q,W.cellsFrom_some _ _ _ (.inl q)⟩
 refine codeAny_call_function hr.depth (KX _ _ lk) rfl S.co S.gen rfl (W.codeRec_of KX hcd) (hb _ _ _ _ ?_);refine wpAny_newFunctionEnv_cells S.kind hkind λenv he s1 x=>?_
 subst he;refine⟨lim.keeps x.toInCall.keep,codeAny_func ?_⟩;obtain⟨t,ht,hq⟩:=hbody A outer s H vs Q E (hr.deeper _) hsp;have I:Inv (xJ CX P w K mg base N qual scope f cdv A outer s H E) [] (start N vs) H s1:=xR S hr.hd e0 hl r x;refine wpAny_mono (ht [] s1 (start N vs) H _ I hq) (λfl s' hs=>?_) λe s' hs=>hs
 have fin:∀ {σ':St}{H':Hp}{v:V}{u:Value},Inv (xJ CX P w K mg base N qual scope f cdv A outer s H E) [] σ' H' s'->RelV v u->Q v H'->CE outer P w H s Q u s':=
  λ{σ' H' v u} J rv q=>⟨v,H',J.os,J.bare,J.base,J.hok,rv,q⟩
 cases fl with
 |ret u=>
  obtain⟨v,σ',H',J,rv,q⟩:=hs;exact fin J rv q
 |next=>
  obtain⟨σ',H',J,q⟩:=hs;exact fin (v:=V.non) (u:=Value.none) J rfl q
 |brk=>
  obtain⟨_,_,_,q⟩:=hs;exact False.elim q
 |cont=>
  obtain⟨_,_,_,q⟩:=hs;exact False.elim q
section
variable {X:Cx}{x:Str}{p pos:Pos}{e:Expr}{es:List Expr}{t:TA}{id T:String}{r:List V->Hp->VK->Prop}
abbrev MV (r:List V->Hp->VK->Prop)(t:TA):TE:=λU H Q=>t U H λvs H1=>r vs H1 Q
def sV (hc:di X (.builtin id) r)(hg:Gl X x)(hm:X.mg x=none)(hv:bootBuiltins x=some (.builtin id))(ha:PA X (e::es) t)(hn:x≠"__name__":=by decide) (hdb:(x ==("__debug__":Str))=false:=by decide)
  (he:bn (e::es) X.env=(false,eval e X.env)::bn es X.env:=by rfl) (hpl:(backTo pos (bn es X.env)).any (·.1)=false:=by rfl):PE X (.Call (.Name x p) (e::es) [] pos) (MV r t):=by
 intro Y s U H Q I h;refine ce (cW I hg hm hv ?_ hn hdb);exact PyProof.Rows.callWith_builtin1 (aD (ha pos Y s U H _ I h) λus s1 ⟨vs,H1,I1,r1,q1⟩=>hc Y s1 U H1 vs us Q I1 r1 q1) he hpl
def w8 (hc:di X (.type T) r)(hg:Gl X x)(hm:X.mg x=none)(hv:bootBuiltins x=some (.type T))(ha:PA X (e::es) t)(hn:x≠"__name__":=by decide) (hdb:(x ==("__debug__":Str))=false:=by decide)
  (he:bn (e::es) X.env=(false,eval e X.env)::bn es X.env:=by rfl) (hpl:(backTo pos (bn es X.env)).any (·.1)=false:=by rfl):PE X (.Call (.Name x p) (e::es) [] pos) (MV r t):=by
 intro Y s U H Q I h;refine ce (cW I hg hm hv ?_ hn hdb);exact PyProof.Rows.callWith_type1 (aD (ha pos Y s U H _ I h) λus s1 ⟨vs,H1,I1,r1,q1⟩=>hc Y s1 U H1 vs us Q I1 r1 q1) he hpl
end
end L2
namespace HT
open PySem PyProof.Rows
section
open PySem.SeqAt
open PySem.AutoSeq1 (wpAny_loadPart')
open PySem.MeetsSeq PySem.MeetsSeq2 PySem.MeetsSeq3
end
section
variable {prog:Program}{w:World}{A:Around}{E:NV}{s:Shared}
abbrev sD (n d:Nat):Option Int->Nat
 |none=>d
 |some v=>if v<0 then(v+(n:Int)).toNat else min v.toNat n
end
end HT
namespace L2
open PySem PySem.Spec PyProof.Rows
@[reducible]def TO:=St->Hp->(Option Int->Hp->Prop)->Prop
abbrev PO (X:Cx)(e:Option Expr)(t:TO):Prop:=
 ∀ (Y:NW) (s:Shared) (U:St) (H:Hp) (Q:Option Int->Hp->Prop),Inv X Y U H s->t U H Q->
  wpAny (model X.prog X.w) X.A (evalPart e X.env) (λu s'=>∃ o H',Inv X Y U H' s'/\IsPart u o/\Q o H') X.xe s
abbrev Ee:TO:=λ_ H Q=>Q none H
abbrev KN (t:TE):TO:=λU H Q=>t U H λx H1=>∃ i,x=.int i/\Q (some i) H1
section
variable {X:Cx}{e:Expr}{te:TE}{lo hi:Option Expr}{tl th:TO}{pos p2:Pos}
def CK:PO X none Ee:=by
 intro Y s U H Q I h;rw[evalPart_none];exact am ⟨none,H,I,.none,h⟩
def wJ (h:PE X e te):PO X (some e) (KN te):=by
 intro Y s U H Q I hw;rw[evalPart_some];refine aD (h Y s U H _ I hw) λu s1 ⟨x,H1,I1,r1,q1⟩=>?_
 obtain⟨i,rfl,q⟩:=q1;obtain⟨t,rfl⟩:=r1;exact⟨some i,H1,I1,.int i t,q⟩
abbrev Lk (X:Cx)(r:V->Option Int->Option Int->Hp->VK->Prop):Prop:=
 ∀ (Y:NW) (s:Shared) (U:St) (H:Hp) (x:V) (v vl vu:Value) (lo hi:Option Int) (sl:Addr) (Q:VK),Inv X Y U H s->RelV x v->s.heap.IsSliceOf sl vl vu .none->IsPart vl lo->IsPart vu hi->r x lo hi H Q->
  ∃ T id,typeLookup (.type T) "__getitem__"=pure (some (.builtin id))/\s.TypeIs v T/\wpAny (model X.prog X.w) X.A (getItem v (.ref sl)) (EP X Y U Q) X.xe s
abbrev Np (r:V->Option Int->Option Int->Hp->VK->Prop)(te:TE)(tl th:TO):TE:=λU H Q=>te U H λx H1=>tl U H1 λl H2=>th U H2 λu H3=>r x l u H3 Q
def zH {r:V->Option Int->Option Int->Hp->VK->Prop}(hr:Lk X r)(he:PE X e te)(hl:PO X lo tl)(hu:PO X hi th):PE X (.Subscript e (.Slice lo hi none p2) pos) (Np r te tl th):=by
 intro Y s U H Q I h;refine Subscript_ (aD (he Y s U H _ I h) λv s1 ⟨x,H1,I1,r1,q1⟩=>?_);refine wpAny_Slice (aD (hl Y s1 U H1 _ I1 q1) λvl s2 ⟨l,H2,I2,pl,q2⟩=>aD (hu Y s2 U H2 _ I2 q2) λvu s3 ⟨u,H3,I3,pu,q3⟩=>?_);rw[evalPart_none];refine am ?_;have I4:Inv X Y U H3 { s3 with heap:=s3.heap.push { cls:=.type "slice",data:=.fields #[vl,vu,.none] } }:=I3.kept (t':=s3.toks) λb ob q=>ut _ q
 obtain⟨T,id,hT,ht,hg⟩:=hr Y { s3 with heap:=s3.heap.push { cls:=.type "slice",data:=.fields #[vl,vu,.none] } } U H3 x v vl vu l u s3.heap.objs.size Q I4 r1 (Heap.IsSliceOf.new ..) pl pu q3;show wpAny (model X.prog X.w) X.A (subscriptTail e (.Slice lo hi none p2) v (.ref s3.heap.objs.size)) (EP X Y U Q) X.xe { s3 with heap:=s3.heap.push { cls:=.type "slice",data:=.fields #[vl,vu,.none] } };exact tail_any (ops:=[.ref s3.heap.objs.size,v]) ht hT hg (by with_unfolding_all rfl)
abbrev sL (xs:List V)(lo hi:Option Int):List V:=(xs.drop (HT.sD xs.length 0 lo)).take (HT.sD xs.length xs.length hi-HT.sD xs.length 0 lo)
def tB (xs:List V)(lo hi:Option Int):(sL xs lo hi).length<=xs.length:=by
 unfold sL;rw[dl,jp]
 omega
end
abbrev A2 (n:Nat)(i:Int):Option Nat:=if 0<=i then(if i<n then some i.toNat else none) else if -(n:Int)<=i then some (i+n).toNat else none
variable {α:Type}
abbrev lS (xs:List α)(i:Int):Option α:=(A2 xs.length i).bind λj=>xs[j]?
variable {n:Nat}
def vY {i:Int}{j:Nat}(h:A2 n i=some j):seqIndex? i n=some j/\j<n/\ -(n:Int)<=i/\i<n:=by
 unfold A2 at h
 by_cases h0:0<=i
 .rw[if_pos h0]at h
  by_cases h1:i<n
  .rw[if_pos h1]at h;have e:i.toNat=j:=Option.some.inj h;exact⟨by rw[seqIndex_of h0 h1,e],by omega,by omega,h1⟩
  .rw[if_neg h1]at h;cases h
 .rw[if_neg h0]at h
  by_cases h1: -(n:Int)<=i
  .rw[if_pos h1]at h;have e:(i+n).toNat=j:=Option.some.inj h;exact⟨by rw[seqIndex_neg nofun h1,e],by omega,h1,by omega⟩
  .rw[if_neg h1]at h;cases h
def aY {xs:List α}{i:Int}{v:α}(h:lS xs i=some v):∃ j,seqIndex? i xs.length=some j/\xs[j]? =some v/\j<xs.length/\ -(xs.length:Int)<=i/\i<xs.length:=by
 unfold lS at h;cases e:A2 xs.length i with
 |none=>rw[e]at h;cases h
 |some j=>
  rw[e]at h;obtain⟨h1,h2,h3,h4⟩:=vY e;exact⟨j,h1,h,h2,h3,h4⟩
def pR {xs:List α}{j:Nat}{v:α}(h:xs[j]? =some v):lS xs (j:Int)=some v:=by
 have hj:j<xs.length:=(ul.mp h).1;have e:A2 xs.length (j:Int)=some j:=by
  unfold A2;rw[if_pos nofun,if_pos nofun];simp
 unfold lS;rw[e];exact h
abbrev wt (b:Expr):Prop:=∀ o i,subscripted b false o i=operate [o,i] (getItem o i)
abbrev JL (X:Cx)(r:R2):Prop:=
 ∀ (value slice:Expr) (Y:NW) (s:Shared) (U:St) (H:Hp) (x y:V) (v u:Value) (Q:VK),Inv X Y U H s->RelV x v->RelV y u->r x y H Q->
  subscripted slice false v u=operate [v,u] (getItem v u)->wpAny (model X.prog X.w) X.A (subscriptTail value slice v u) (EP X Y U Q) X.xe s
abbrev JV (X:Cx)(id:String)(r:V->List V->Hp->VK->Prop):Prop:=
 ∀ (Y:NW) (s:Shared) (U:St) (H:Hp) (x:V) (xs:List V) (v:Value) (us:List Value) (Q:VK),Inv X Y U H s->RelV x v->Vals xs us->r x xs H Q->
  wpAny (model X.prog X.w) X.A (call (.builtin id) (v::us)) (EP X Y U Q) X.xe s
variable {Y:NW}{U:St}{H:Hp}{s:Shared}{y:V}{u:Value}
section
variable {X:Cx}{a b:Expr}{ta tb:TE}{pos:Pos}
def JR {r:R2}(hr:JL X r)(ha:PE X a ta)(hb:PE X b tb)(hs:wt b):PE X (.Subscript a b pos) (Ln r ta tb):=by
 intro Y s U H Q I h;exact Subscript_ (Hv ha hb I h λv u s2 x y H2 I2 rx ry q=>hr a b Y s2 U H2 x y v u Q I2 rx ry q (hs _ _))
abbrev MM (K:W.Frag):R2:=λx y H Q=>∃ p xs i v,x=.ref p/\y=.int i/\bb K H p xs/\lS xs i=some v/\Q v H
abbrev LO (K:W.Frag):R2:=λx y H Q=>∃ p xs i v,x=.ref p/\y=.int i/\bp K H p xs/\lS xs i=some v/\Q v H
def Cr:JL X (MM X.K):=by
 intro value slice Y s U H x y v u Q I rx ry h hs;obtain⟨p,xs,i,z,rfl,rfl,hq,he,q⟩:=h;cases rx;obtain⟨t,rfl⟩:=ry;obtain⟨its,r,pl,hz⟩:=I.list hq;obtain⟨j,h1,h2,h3,h4,h5⟩:=aY he;obtain⟨w,ew,rw'⟩:=r.get h2;have hl:=r.length;have hn:=jn;have fin:EP X Y U Q w s:=⟨z,H,I,rw',q⟩
 by_cases h0:0<=i
 .have hj:i.toNat=j:=by
   rw[seqIndex_of h0 h5]at h1;exact Option.some.inj h1
  exact item_listR pl.isList h0 nofun (by rw[hj];simpa using ew) fin hs
 .have hj:(i+(its.toArray.size:Int)).toNat=j:=by
   rw[seqIndex_neg nofun h4]at h1;rw[ii,<-hl];exact Option.some.inj h1
  exact subscriptTail_builtinR (x:=w) pl.isList.typeIs slot_list_getitem.lookup
   (wpAny_getItem_list_neg (Q:=λr s'=>r=w/\EP X Y U Q r s') pl.isList nofun (by rw[ii]<;>omega) nofun (by rw[hj];simpa using ew) ⟨rfl,fin⟩) hs
def Gp:JL X (LO X.K):=by
 intro value slice Y s U H x y v u Q I rx ry h hs;obtain⟨p,xs,i,z,rfl,rfl,hq,he,q⟩:=h;cases rx;obtain⟨t,rfl⟩:=ry;obtain⟨its,r,pl,hz⟩:=I.tuple hq;obtain⟨j,h1,h2,h3,h4,h5⟩:=aY he;obtain⟨w,ew,rw'⟩:=r.get h2;have hl:=r.length;have hn:=jn;have fin:EP X Y U Q w s:=⟨z,H,I,rw',q⟩;exact subscriptTail_builtinR (x:=w) pl.typeIs slot_tuple_getitem.lookup
  (getItem_tuple (j:=j) (Q:=λr s'=>r=w/\EP X Y U Q r s') pl nofun nofun (by rw[ii,<-hl];exact h1) (by simpa using ew) ⟨rfl,fin⟩) hs
def uW (its:List Value)(n j:Nat)(u:Value):Obj.mapSeq (·.setIfInBounds j u) { cls:=.type "list",data:=.seq its.toArray n }={ cls:=.type "list",data:=.seq (its.set j u).toArray n }:=by
 simp[Obj.mapSeq]
def Inv.lst {Y:NW}{U:St}{H:Hp}{s:Shared}{p:Addr}{xs:List V}(I:Inv X Y U H s)(h:H p=some (.lst xs)):
  ∃ (its:List Value) (n:Nat),Vals xs its/\s.heap.get? p=some { cls:=.type "list",data:=.seq its.toArray n }/\xs.length<=bv:=by
 obtain⟨z,its,n,r,e⟩:=I.hok p _ h;exact⟨its,n,r,e,z⟩
def Inv.HR {p:Addr}{xs ys:List V}{its its':List Value}{n':Nat}{f:Obj->Obj}(I:Inv X Y U H s)(h:H p=some (.lst xs))
  (ho:s.heap.get? p=some { cls:=.type "list",data:=.seq its.toArray n }) (hf:f { cls:=.type "list",data:=.seq its.toArray n }={ cls:=.type "list",data:=.seq its'.toArray n' }) (r:Vals ys its') (hz:ys.length<=bv) (t:Nat):
  Inv X Y U (upd H p (.lst ys)) { s with heap:=s.heap.update p f,toks:=t }:=by
 have e:(s.heap.update p f).get? p=some { cls:=.type "list",data:=.seq its'.toArray n' }:=by
  rw[Heap.get?_update_self f ho (by rw[hf]<;>rfl),hf]
 refine I.write (x:=p) (e:=p) (by rw[h];trivial) (.inl rfl) (λb u hb q=>(Heap.get?_update_other _ _ (Ne.symm hb)).trans q) ⟨_,e⟩ ?_;exact⟨hz,its',n',r,e⟩
abbrev IJ:V->V->V->Hp->(Hp->Prop)->Prop:=λo i v H Q=>∃ p xs k j,o=.ref p/\i=.int k/\H p=some (.lst xs)/\A2 xs.length k=some j/\Q (upd H p (.lst (xs.set j v)))
def set_list:CB X IJ:=by
 intro Y s U H o i v ov iv u Q I ro ri rv h;obtain⟨p,xs,k,j,rfl,rfl,hp,hj,q⟩:=h;cases ro;obtain⟨t,rfl⟩:=ri;obtain⟨its,n,r,ho,hz⟩:=I.lst hp;obtain⟨h1,h2,h3,h4⟩:=vY hj;have hl:=r.length;have hn:=jn;have I':Inv X Y U (upd H p (.lst (xs.set j v))) { s with heap:=s.heap.update p (Obj.mapSeq (·.setIfInBounds j u)) }:=
  I.HR hp ho (uW its n j u) (r.set rv j) (by rw[length_set];exact hz) s.toks
 by_cases h0:0<=k
 .have hk:k.toNat=j:=by
   rw[seqIndex_of h0 h4]at h1;exact Option.some.inj h1
  exact W.ki_setAt ho h0 nofun (by rw[ii,<-hl];exact h4) (by rw[hk];exact⟨_,I',q⟩)
 .have hk:(k+(its.toArray.size:Int)).toNat=j:=by
   rw[seqIndex_neg nofun h3]at h1;rw[ii,<-hl];exact Option.some.inj h1
  exact W.ki_setBack ho nofun (by rw[ii,<-hl];exact h3) nofun (by rw[hk];exact⟨_,I',q⟩)
def p9 (lo hi:Option Int)(n:Nat):(sliceBounds lo hi none n).1=((HT.sD n 0 lo:Nat):Int)/\(sliceBounds lo hi none n).2.1=((HT.sD n n hi:Nat):Int)/\(sliceBounds lo hi none n).2.2=1:=by
 refine⟨?_,?_,rfl⟩
 .cases lo with
  |none=>simp[sliceBounds,HT.sD]
  |some i=>
   simp only[sliceBounds,HT.sD,Option.getD_none,show(1:Int)>0 by decide,if_true]
   by_cases h:i<0
   .simp only[h,if_true]<;>omega
   .simp only[h,if_false]<;>omega
 .cases hi with
  |none=>simp[sliceBounds,HT.sD]
  |some i=>
   simp only[sliceBounds,HT.sD,Option.getD_none,show(1:Int)>0 by decide,if_true]
   by_cases h:i<0
   .simp only[h,if_true]<;>omega
   .simp only[h,if_false]<;>omega
def nc (its:List Value)(lo hi:Option Int):slicePick its.toArray lo hi none=((its.drop (HT.sD its.length 0 lo)).take (HT.sD its.length its.length hi-HT.sD its.length 0 lo)).toArray:=by
 obtain⟨h1,h2,h3⟩:=p9 lo hi its.toArray.size;unfold slicePick;rw[h1,h2,h3];simp only[sliceRange_one,pick_run,ii]<;>rfl
abbrev LG (K:W.Frag):V->Option Int->Option Int->Hp->VK->Prop:=λx lo hi H Q=>∃ a xs,x=.ref a/\bb K H a xs/\∀ p,H p=none->Q (.ref p) (upd H p (.lst (sL xs lo hi)))
def Cm:Lk X (LG X.K):=by
 intro Y s U H x v vl vu lo hi sl Q I rx hs pl pu h;obtain⟨a,xs,rfl,hx,q⟩:=h;cases rx;obtain⟨its,r,ht,hz⟩:=I.list hx;have hlen:=r.length;refine⟨"list",_,slot_list_getitem.lookup,ht.isList.typeIs,?_⟩;refine wpAny_getItem_list_slice ht.isList hs pl pu .none (by simp) ?_ (by rw[ii]<;>omega);rw[nc,<-hlen];refine⟨.ref s.heap.objs.size,_,I.laid (t':=s.toks) (o:=.lst (sL xs lo hi)) (λb ob q=>ut _ q) (sw _) ?_,rfl,q _ (I.hok.fresh (sw _))⟩;exact⟨Nat.le_trans (tB xs lo hi) hz,_,0,(r.drop (HT.sD xs.length 0 lo)).take (HT.sD xs.length xs.length hi-HT.sD xs.length 0 lo),v4 _ rfl⟩
abbrev aZ:V->Bool
 | .non=>true
 | .bl _=>true
 | .int _=>true
 | .str _=>true
 |_=>false
abbrev dw:V->V->Bool
 | .non,.non=>true
 | .bl a,.bl b=>a ==b
 | .bl a,.int b=>(if a then 1 else 0) ==b
 | .int a,.bl b=>a ==(if b then 1 else 0)
 | .int a,.int b=>a ==b
 | .str a,.str b=>a ==b
 |_,_=>false
def Bc {A:Around}{x:V}{v:Value}(ry:RelV y u)(rx:RelV x v)(fy:aZ y=true)(fx:aZ x=true):SeqAt.EqAt A s u v (dw y x):=by
 cases y with
 |non=>
  cases ry;cases x with
  |non=>cases rx;exact SeqAt.EqAt.same _
  |bl b=>cases rx;exact SeqAt.EqAt.none_bool b
  |int b=>obtain⟨t,rfl⟩:=rx;exact SeqAt.EqAt.none_int b t
  |str b=>obtain⟨t,rfl⟩:=rx;exact SeqAt.EqAt.none_str b t
  |_=>exact absurd (show false=true from fx) Bool.false_ne_true
 |bl a=>
  cases ry;cases x with
  |non=>cases rx;exact SeqAt.EqAt.bool_none a
  |bl b=>cases rx;exact SeqAt.EqAt.bool_bool a b
  |int b=>obtain⟨t,rfl⟩:=rx;exact SeqAt.EqAt.bool_int a b t
  |str b=>obtain⟨t,rfl⟩:=rx;exact SeqAt.EqAt.bool_str a b t
  |_=>exact absurd (show false=true from fx) Bool.false_ne_true
 |int a=>
  obtain⟨t',rfl⟩:=ry;cases x with
  |non=>cases rx;exact SeqAt.EqAt.int_none a t'
  |bl b=>cases rx;exact SeqAt.EqAt.int_bool a t' b
  |int b=>obtain⟨t,rfl⟩:=rx;exact SeqAt.EqAt.int_int a t' b t
  |str b=>obtain⟨t,rfl⟩:=rx;exact SeqAt.EqAt.int_str a t' b t
  |_=>exact absurd (show false=true from fx) Bool.false_ne_true
 |str a=>
  obtain⟨t',rfl⟩:=ry;cases x with
  |non=>cases rx;exact SeqAt.EqAt.str_none a t'
  |bl b=>cases rx;exact SeqAt.EqAt.str_bool a t' b
  |int b=>obtain⟨t,rfl⟩:=rx;exact SeqAt.EqAt.str_int a t' b t
  |str b=>obtain⟨t,rfl⟩:=rx;exact SeqAt.EqAt.str_str a t' b t
  |_=>exact absurd (show false=true from fx) Bool.false_ne_true
 |_=>exact absurd (show false=true from fy) Bool.false_ne_true
abbrev D6 (x:V)(u:Value):Bool:=match u with
 | .none=>dw .non x
 | .bool b=>dw (.bl b) x
 | .int i _=>dw (.int i) x
 | .str z _=>dw (.str z) x
 |_=>false
def AV {x:V}(r:RelV y u)(f:aZ y=true):D6 x u=dw y x:=by
 cases y with
 |non=>cases r;rfl
 |bl b=>cases r;rfl
 |int i=>obtain⟨t,rfl⟩:=r;rfl
 |str z=>obtain⟨t,rfl⟩:=r;rfl
 |_=>exact absurd (show false=true from f) Bool.false_ne_true
def pH {x:V}:∀ {xs:List V}{us:List Value},Vals xs us->xs.all aZ=true->us.any (D6 x)=xs.any λy=>dw y x
 |_,_,.nil,_=>rfl
 |y::xs,u::us,.cons r t,f=>by
  rw[all_cons,ol]at f;rw[any_cons,any_cons,AV r f.1,pH t f.2]
def ly {A:Around}{s:Shared}{x:V}{v:Value}(rx:RelV x v)(fx:aZ x=true):∀ {xs:List V}{us:List Value},Vals xs us->xs.all aZ=true->∀ u ∈ us,SeqAt.EqAt A s u v (D6 x u)
 |_,_,.nil,_=>λu hu=>by cases hu
 |y::xs,u::us,.cons r t,f=>λu' hu=>by
  rw[all_cons,ol]at f;rcases nw.mp hu with rfl|hu
  .rw[AV r f.1];exact Bc r rx f.1 fx
  .exact ly rx fx t f.2 u' hu
abbrev ID (x:V)(xs:List V):Bool:=xs.any λy=>dw y x
abbrev Ny (K:W.Frag)(neg:Bool):R2:=λx y H Q=>∃ p xs,y=.ref p/\(bb K H p xs\/bp K H p xs)/\aZ x=true/\xs.all aZ=true/\Q (.bl (if neg then !ID x xs else ID x xs)) H
def xg:cX X (compareOp .In) (Ny X.K false):=by
 intro Y s U H x y v u Q I rx ry h;obtain⟨p,xs,rfl,hq,fx,fs,q⟩:=h;cases ry;rcases hq with hq|hq
 .obtain⟨its,r,pl,hz⟩:=I.list hq;refine SeqAt.in_listAt (D6 x) pl.isList (λw hw=>ly rx fx r fs w (by simpa using hw)) ⟨.bl _,H,I,rfl,?_⟩;rw[show its.toArray.any (D6 x)=its.any (D6 x) by simp,pH r fs];exact q
 .obtain⟨its,r,pl,hz⟩:=I.tuple hq;refine SeqAt.in_tupleAt (D6 x) pl (λw hw=>ly rx fx r fs w (by simpa using hw)) ⟨.bl _,H,I,rfl,?_⟩;rw[show its.toArray.any (D6 x)=its.any (D6 x) by simp,pH r fs];exact q
def pf:di X (.type "list") (λxs H Q=>∃ p ys,xs=[.ref p]/\(bb X.K H p ys\/bp X.K H p ys)/\∀ l,H l=none->Q (.ref l) (upd H l (.lst ys))):=by
 intro Y s U H xs us Q I r h;obtain⟨p,ys,rfl,hq,q⟩:=h;obtain⟨u,rfl,rx⟩:=vals1 r;cases rx;have fin:∀ (its:List Value),Vals ys its->ys.length<=bv->∀ (h':Heap) (c':Nat),(∀ b o',s.heap.get? b=some o'->h'.get? b=some o')->
   h'.get? s.heap.objs.size=some { cls:=.type "list",dict:=none,data:=.seq its.toArray c',slots:=#[] }->EP X Y U Q (.ref s.heap.objs.size) { s with heap:=h' }:=λits r' hz h' c' kp e=>
  ⟨.ref s.heap.objs.size,_,I.laid (t':=s.toks) kp (sw _) (show aP X.prog X.w _ h' _ (.lst ys) from⟨hz,its,c',r',e⟩),rfl,q _ (I.hok.fresh (sw _))⟩
 rcases hq with hq|hq
 .obtain⟨its,r',pl,hz⟩:=I.list hq;have hlen:=r'.length;obtain⟨o,ho,hc,n,hd⟩:=pl.isList;exact call_list_seq p (.inl rfl) ho hc hd (λh' c' kp e=>fin its r' hz h' c' kp e) (by simp only[ii]<;>omega)
 .obtain⟨its,r',pl,hz⟩:=I.tuple hq;have hlen:=r'.length;obtain⟨o,ho,hc,n,hd⟩:=pl;exact call_list_seq p (.inr rfl) ho hc hd (λh' c' kp e=>fin its r' hz h' c' kp e) (by simp only[ii]<;>omega)
def mR:di X (.type "tuple") (λxs H Q=>∃ p ys,xs=[.ref p]/\((bb X.K H p ys/\∀ l,H l=none->Q (.ref l) (upd H l (.tup ys)))\/(bp X.K H p ys/\Q (.ref p) H))):=by
 intro Y s U H xs us Q I r h;obtain⟨p,ys,rfl,h⟩:=h;obtain⟨u,rfl,rx⟩:=vals1 r;cases rx;rcases h with⟨hq,q⟩|⟨hq,q⟩
 .obtain⟨its,r',pl,hz⟩:=I.list hq;have hlen:=r'.length;refine call_tuple_list pl.isList (λh' kp=>?_) (by simp only[ii]<;>omega);have I1:Inv X Y U H { s with heap:=h' }:=I.kept (t':=s.toks) kp;have I2:Inv X Y U (upd H h'.objs.size (.tup ys)) { s with heap:=h'.push { cls:=.type "tuple",data:=.seq its.toArray } }:=
   I1.laid (t':=s.toks) (λb o e=>ut _ e) (sw _) (show aP X.prog X.w _ _ _ (.tup ys) from⟨hz,its,r',IsTup.new _ _⟩)
  exact⟨.ref h'.objs.size,_,I2,rfl,q _ (I1.hok.fresh (sw _))⟩
 .obtain⟨its,r',pl,hz⟩:=I.tuple hq;exact call_tuple_same pl ⟨.ref p,H,I,rfl,q⟩
abbrev Mx (K:W.Frag)(T:String)(x:V)(H:Hp):Prop:=match x with
 | .str _=>T="str"
 | .int _=>T="int"
 | .ref p=>(T="list"/\∃ xs,bb K H p xs)\/(T="tuple"/\∃ o,K.lookup p=some o/\o.cls=.type "tuple"/\o.dict=none)\/
   (T="dict"/\((∃ kvs,H p=some (.dK kvs))\/∃ kvs,H p=some (.dT kvs)))\/(T="set"/\∃ S n,H p=some (.set S n))
 |_=>False
def tV {T:String}{x:V}{v:Value}(I:Inv X Y U H s)(r:RelV x v)(ty:Mx X.K T x H):
  s.TypeIs v T/\∀ a,v=.ref a->∃ ob,s.heap.get? a=some ob/\ob.dict=none:=by
 cases x with
 |str z=>
  obtain⟨t,rfl⟩:=r;cases(show T="str" from ty);exact⟨typeIs_str s z t,λ_ e=>nomatch e⟩
 |int i=>
  obtain⟨t,rfl⟩:=r;cases(show T="int" from ty);exact⟨typeIs_int s i t,λ_ e=>nomatch e⟩
 |ref p=>
  cases r;rcases ty with⟨rfl,xs,hq⟩|⟨rfl,o,hk,hc,hd⟩|⟨rfl,hk⟩|⟨rfl,S,n,hk⟩
  .obtain⟨its,_,pl,_⟩:=I.list hq;refine⟨pl.isList.typeIs,λa e=>?_⟩;cases e;obtain⟨o,n,e,c,hd,_⟩:=pl;exact⟨o,e,hd⟩
  .refine⟨⟨o,I.bV p o hk,hc⟩,λa e=>?_⟩;cases e;exact⟨o,I.bV _ o hk,hd⟩
  .have z:∃ o,s.heap.get? p=some o/\o.ExactDict:=by
    rcases hk with⟨kvs,hk⟩|⟨kvs,hk⟩
    .obtain⟨_,_,_,_,o,_,_,e,ex,_⟩:=I.hok p _ hk;exact⟨o,e,ex⟩
    .obtain⟨_,_,_,_,o,_,_,e,ex,_⟩:=I.hok p _ hk;exact⟨o,e,ex⟩
   obtain⟨o,e,ex⟩:=z;refine⟨⟨o,e,ex.1⟩,λa e2=>?_⟩;cases e2;exact⟨o,e,ex.2.1⟩
  .obtain⟨o,_,_,_,e,ex,_⟩:=I.hok p _ hk;refine⟨⟨o,e,ex.1⟩,λa e2=>?_⟩;cases e2;exact⟨o,e,ex.2.1⟩
 |_=>exact False.elim ty
abbrev MN (K:W.Frag)(T:String)(r:V->List V->Hp->VK->Prop)(to:TE):TE:=λU H Q=>to U H λx H1=>Mx K T x H1/\r x [] H1 Q
abbrev NN (K:W.Frag)(T:String)(r:V->List V->Hp->VK->Prop)(to:TE)(t:TA):TE:=λU H Q=>to U H λx H1=>Mx K T x H1/\t U H1 λxs H2=>r x xs H2 Q
variable {o e:Expr}{es:List Expr}{to:TE}{t:TA}{name:Str}{apos cpos:Pos}{T id:String}{r:V->List V->Hp->VK->Prop}
def HP (pa:PlainAttrs T)(slot:Slot T name id)(hty:typeOf (.builtin id)=pure (.type "method_descriptor")) (hm:JV X id r) (ho:PE X o to)
  (hbase:attributeBase o name X.env (eval o X.env)=eval o X.env:=by rfl) (hline:(apos.endLine ==cpos.line)=true:=by rfl):PE X (.Call (.Attribute o name apos) [] [] cpos) (MN X.K T r to):=by
 intro Y s U H Q I h;refine wpAny_Call_method0_late hbase hline (aD (ho Y s U H _ I h) λv s1 ⟨x,H1,I1,r1,ty,q1⟩=>?_);obtain⟨h1,h2⟩:=tV I1 r1 ty;exact⟨T,id,pa,slot,hty,h1,h2,Calls.callWith_builtin rfl (PySem.evalArgs_none (hm Y s1 U H1 x [] v [] Q I1 r1 .nil q1))⟩
def EE (pa:PlainAttrs T)(slot:Slot T name id)(hty:typeOf (.builtin id)=pure (.type "method_descriptor")) (hm:JV X id r) (ho:PE X o to) (ha:PA X (e::es) t)
  (hbase:attributeBase o name X.env (eval o X.env)=eval o X.env:=by rfl)
  (hfew:((backTo cpos (bn (e::es) X.env)).all (λx=>!x.1)&&(backToKw cpos (keywordEach [] X.env)).all (λx=>x.1.isSome)
   &&decide ((e::es).length+([]:List Keyword).length+(if([]:List Keyword).isEmpty then 0 else 1)<30))=true:=by rfl)
  (hline:(apos.endLine ==cpos.line)=true:=by rfl) (hs:bn (e::es) X.env=(false,eval e X.env)::bn es X.env:=by rfl) (hplain:(backTo cpos (bn es X.env)).any (·.1)=false:=by rfl):
  PE X (.Call (.Attribute o name apos) (e::es) [] cpos) (NN X.K T r to t):=by
 intro Y s U H Q I h;refine wpAny_Call_method_late hbase hfew hline rfl (aD (ho Y s U H _ I h) λv s1 ⟨x,H1,I1,r1,ty,q1⟩=>?_);obtain⟨h1,h2⟩:=tV I1 r1 ty;refine⟨T,id,pa,slot,hty,h1,h2,?_⟩;have hA:=ha cpos Y s1 U H1 _ I1 q1;rw[hs]at hA⊢;refine Calls.callWith_builtin (by show(false||(backTo cpos (bn es X.env)).any (·.1))=false;rw[hplain]<;>rfl) (Calls.evalArgs_plain ?_);exact aD hA λus s2 ⟨vs,H2,I2,r2,q2⟩=>hm Y s2 U H2 x vs v us Q I2 r1 r2 q2
/- xs.append(e),list.index on a module's tuple .. are JV facts of 06m -/
end
abbrev IW (X:Cx)(id:String)(r:V->List V->Hp->VK->Prop):Prop:=
 ∀ (Y:NW) (s:Shared) (U:St) (H:Hp) (x:V) (xs:List V) (v:Value) (us:List Value) (Q:VK),Inv X Y U H s->RelV x v->Vals xs us->r x xs H Q->
  wpAny (model X.prog X.w) X.A (call (.builtin id) (v::us)) (EP X Y U Q) X.xe s
def Vals.one:∀ {x:V}{us:List Value},Vals [x] us->∃ u,us=[u]/\RelV x u
 |_,_,.cons r .nil=>⟨_,rfl,r⟩
def Vals.zero:∀ {us:List Value},Vals [] us->us=[]
 |_,.nil=>rfl
variable {us:List Value}
def Vals.dropLast {xs:List V}(h:Vals xs us):Vals xs.dropLast us.dropLast:=by
 induction h with
 |nil=>exact .nil
 |cons r t ih=>
  cases t with
  |nil=>exact .nil
  |cons q t'=>exact .cons r ih
def Vals.eraseIdx:∀ {xs:List V}{us:List Value}(i:Nat),Vals xs us->Vals (xs.eraseIdx i) (us.eraseIdx i)
 |_,_,_,.nil=>.nil
 |_,_,0,.cons _ t=>t
 |_,_,i+1,.cons r t=>.cons r (Vals.eraseIdx i t)
def Vals.reverse {xs:List V}(h:Vals xs us):Vals xs.reverse us.reverse:=by
 induction h with
 |nil=>exact .nil
 |cons r t ih=>rw[reverse_cons,reverse_cons];exact Vals.append ih (.cons r .nil)
def Vals.rep {xs:List V}(h:Vals xs us):∀ k:Nat,Vals (tz k xs).flatten (tz k us).flatten
 |0=>.nil
 |k+1=>by
  rw[replicate_succ,replicate_succ,flatten_cons,flatten_cons];exact Vals.append h (Vals.rep h k)
def uR (l:List α):l.eraseIdx (l.length-1)=l.dropLast:=by
 induction l with
 |nil=>rfl
 |cons a r ih=>
  cases r with
  |nil=>rfl
  |cons b r=>
   have e:(a::b::r).length-1=((b::r).length-1)+1:=by
    have h1:(a::b::r).length=r.length+2:=rfl;have h2:(b::r).length=r.length+1:=rfl
    omega
   rw[e,List.eraseIdx_cons_succ,ih]
   all_goals rfl
def oE {α:Type}:∀ (l:List α) (i:Nat),(l.eraseIdx i).length<=l.length
 | [],_=>sw _
 |_::_,0=>Nat.le_succ _
 |_::r,i+1=>Nat.succ_le_succ (oE r i)
def foldl_rep (its:List Value):∀ (k:Nat) (acc:List Value),
  List.foldl (λx1 x2=>x1++x2) acc.toArray (tz k its.toArray)=(acc++(tz k its).flatten).toArray
 |0,acc=>by simp
 |k+1,acc=>by
  have e:acc.toArray++its.toArray=(acc++its).toArray:=by simp
  have e2:(acc++its)++(tz k its).flatten=acc++(tz (k+1) its).flatten:=by
   rw[replicate_succ,flatten_cons,li]
  rw[<-e2,<-foldl_rep its k (acc++its),<-e,replicate_succ,foldl_cons]
section
variable {X:Cx}{Y:NW}{U:St}{H:Hp}{s:Shared}{l b:Addr}{xs ys zs:List V}
def Inv.Bj {its its':List Value}{f:Array Value->Array Value}{t':Nat}(I:Inv X Y U H s)(hH:H l=some (.lst xs))
  (e:s.heap.get? l=some { cls:=.type "list",data:=.seq its.toArray n }) (hf:f its.toArray=its'.toArray) (hv:Vals ys its') (hz:ys.length<=bv):
  Inv X Y U (upd H l (.lst ys)) { s with heap:=s.heap.update l (Obj.mapSeq f),toks:=t' }:=by
 have q:=PySem.IsL.update e f;rw[hf]at q;refine I.write (x:=l) (e:=l) (by rw[hH];exact trivial) (.inl rfl) (λb' u hb hu=>(Heap.get?_update_other s.heap (Obj.mapSeq f) (Ne.symm hb)).trans hu) ⟨_,q⟩ ?_;exact⟨hz,its',_,hv,q⟩
def Inv.J3 {its:List Value}{t':Nat}(I:Inv X Y U H s)(hv:Vals ys its)(hz:ys.length<=bv):
  Inv X Y U (upd H s.heap.objs.size (.lst ys)) { s with heap:=s.heap.push { cls:=.type "list",data:=.seq its.toArray },toks:=t' }:=
 I.laid (λ_ _ q=>ut _ q) (sw _) ⟨hz,its,0,hv,v4 _ rfl⟩
def Inv.fresh (I:Inv X Y U H s):H s.heap.objs.size=none:=I.hok.fresh (sw _)
def Inv.lN (I:Inv X Y U H s)(hH:H l=some (.lst xs)):xs.length<=bv/\∃ (its:List Value) (n:Nat),Vals xs its/\xs.length=its.length/\s.heap.get? l=some { cls:=.type "list",data:=.seq its.toArray n }:=by
 obtain⟨z,its,n,r,e⟩:=I.hok l _ hH;exact⟨z,its,n,r,r.length,e⟩
def qM (h:n<=bv):Builtin.List.listTooLong n=false:=by
 unfold Builtin.List.listTooLong;exact decide_eq_false nofun
end
section
variable {X:Cx}
abbrev C4:V->List V->Hp->VK->Prop:=λx vs H Q=>∃ l xs y,x=.ref l/\vs=[y]/\H l=some (.lst xs)/\xs.length<bv/\Q .non (upd H l (.lst (xs++[y])))
def jg:IW X "list.append" C4:=by
 intro Y s U H x vs v us Q I rx rv h;obtain⟨l,xs,y,rfl,rfl,hH,hz,q⟩:=h;cases rx;obtain⟨u,rfl,ru⟩:=rv.one;obtain⟨z,its,n,r,hl,e⟩:=I.lN hH;refine call_meets F.slot_list_append ⟨_,e,rfl⟩ F.entry_list_append (F.args_list_append_2 _ _) (PySem.list_append l its.toArray n u (by rw[ii];omega)) ⟨e,?_⟩;refine⟨.non,_,I.Bj (its':=its++[u]) hH e (by simp) (r.append (.cons ru .nil)) ?_,rfl,q⟩;rw[cr,ge]
 omega
abbrev CW:V->List V->Hp->VK->Prop:=λx vs H Q=>∃ l b xs zs,x=.ref l/\vs=[.ref b]/\H l=some (.lst xs)/\H b=some (.lst zs)/\xs.length+zs.length<=bv/\Q .non (upd H l (.lst (xs++zs)))
def w9:IW X "list.extend" CW:=by
 intro Y s U H x vs v us Q I rx rv h;obtain⟨l,b,xs,zs,rfl,rfl,hH,hB,hz,q⟩:=h;cases rx;obtain⟨u,rfl,ru⟩:=rv.one;cases ru;obtain⟨z,its,n,r,hl,e⟩:=I.lN hH;obtain⟨z2,kK,n2,r2,hl2,e2⟩:=I.lN hB;have hsz:its.toArray.size+kK.toArray.size<=bv:=by rw[ii,ii];omega
 have hlong:¬ (!its.toArray.isEmpty&&Builtin.List.listTooLong (its.toArray.size+kK.toArray.size))=true:=by
  rw[qM hsz,Bool.and_false];exact Bool.false_ne_true
 refine call_meets F.slot_list_extend ⟨_,e,rfl⟩ F.entry_list_extend (F.args_list_extend_2 _ _)
  (AutoSeq1.list_extend_list_list_0 l its.toArray n b kK.toArray n2 hlong (by rw[ii];omega) nofun) ⟨e,e2,?_⟩
 refine⟨.non,_,I.Bj (its':=its++kK) hH e (by simp) (r.append r2) ?_,rfl,q⟩;rw[cr]
 omega
abbrev Ml:V->List V->Hp->VK->Prop:=λx vs H Q=>∃ l xs y,x=.ref l/\vs=[]/\H l=some (.lst xs)/\xs[xs.length-1]? =some y/\Q y (upd H l (.lst xs.dropLast))
def FN:IW X "list.pop" Ml:=by
 intro Y s U H x vs v us Q I rx rv h;obtain⟨l,xs,y,rfl,rfl,hH,hy,q⟩:=h;cases rx;have hus:=rv.zero;subst hus;obtain⟨z,its,n,r,hl,e⟩:=I.lN hH;obtain⟨u,hu,ru⟩:=r.get hy;have hy':its.toArray[its.toArray.size-1]? =some u:=by
  show its.toArray[its.length-1]? =some u;rw[<-Array.getElem?_toList,<-hl];exact hu
 refine call_meets F.slot_list_pop ⟨_,e,rfl⟩ F.entry_list_pop (F.args_list_pop_1 _) (MeetsSeq.list_pop_last l its.toArray n u hy' (by rw[ii];omega)) ⟨e,?_⟩;refine⟨y,_,I.Bj (its':=its.dropLast) hH e ?_ r.dropLast ?_,ru,q⟩
 .show its.toArray.eraseIdxIfInBounds (its.toArray.size-1)=its.dropLast.toArray;rw[ii,List.eraseIdxIfInBounds_toArray,uR]
 .rw[List.length_dropLast]
  omega
abbrev Gg:V->List V->Hp->VK->Prop:=λx vs H Q=>∃ l xs i k y,x=.ref l/\vs=[.int i]/\H l=some (.lst xs)/\ -(2 ^ 63)<=i/\i<2 ^ 63/\seqIndex? i xs.length=some k/\xs[k]? =some y/\Q y (upd H l (.lst (xs.eraseIdx k)))
def BS:IW X "list.pop" Gg:=by
 intro Y s U H x vs v us Q I rx rv h;obtain⟨l,xs,i,k,y,rfl,rfl,hH,h1,h2,hk,hy,q⟩:=h;cases rx;obtain⟨u,rfl,ru⟩:=rv.one;obtain⟨t,rfl⟩:=ru;obtain⟨z,its,n,r,hl,e⟩:=I.lN hH;obtain⟨w,hw,rw'⟩:=r.get hy;refine call_meets F.slot_list_pop ⟨_,e,rfl⟩ F.entry_list_pop (F.args_list_pop_2 _ _)
  (MeetsSeq.list_pop_at l its.toArray n i t k w (fitsIndex_both h1 h2) (by rw[ii,<-hl];exact hk) (by rw[<-Array.getElem?_toList];exact hw) (by rw[ii];omega)) ⟨e,?_⟩
 refine⟨y,_,I.Bj (its':=its.eraseIdx k) hH e ?_ (r.eraseIdx k) ?_,rw',q⟩
 .show its.toArray.eraseIdxIfInBounds k=(its.eraseIdx k).toArray;rw[List.eraseIdxIfInBounds_toArray]
 .have:=oE xs k
  omega
abbrev GY:V->List V->Hp->VK->Prop:=λx vs H Q=>∃ l xs,x=.ref l/\vs=[]/\H l=some (.lst xs)/\Q .non (upd H l (.lst []))
def A9:IW X "list.clear" GY:=by
 intro Y s U H x vs v us Q I rx rv h;obtain⟨l,xs,rfl,rfl,hH,q⟩:=h;cases rx;have hus:=rv.zero;subst hus;obtain⟨z,its,n,r,hl,e⟩:=I.lN hH;refine call_meets F.slot_list_clear ⟨_,e,rfl⟩ F.entry_list_clear (F.args_list_clear_1 _) (AutoSeq1.list_clear_list_0 l its.toArray n (by rw[ii];omega)) ⟨e,?_⟩;exact⟨.non,_,I.Bj (its':=[]) (ys:=[]) hH e rfl .nil (Nat.zero_le _),rfl,q⟩
abbrev MF:R2:=λx y H Q=>∃ l b xs zs,x=.ref l/\y=.ref b/\H l=some (.lst xs)/\H b=some (.lst zs)/\xs.length+zs.length<=bv/\∀ p,H p=none->Q (.ref p) (upd H p (.lst (xs++zs)))
def Fs:cX X (binaryOp .Add) MF:=by
 intro Y s U H x y v u Q I rx ry h;obtain⟨l,b,xs,zs,rfl,rfl,hH,hB,hz,q⟩:=h;cases rx;cases ry;obtain⟨z,its,n,r,hl,e⟩:=I.lN hH;obtain⟨z2,kK,n2,r2,hl2,e2⟩:=I.lN hB;refine PySem.P.add_list e e2 ?_ (by rw[ii,ii];omega);have ea:its.toArray++kK.toArray=(its++kK).toArray:=by simp
 rw[ea];exact⟨.ref _,_,I.J3 (t':=s.toks) (r.append r2) (by rw[cr];omega),rfl,q _ I.fresh⟩
abbrev Mq:R2:=λx y H Q=>∃ l k xs,x=.ref l/\y=.int k/\H l=some (.lst xs)/\ -(2 ^ 63)<=k/\k<2 ^ 63/\xs.length*k.toNat<=bv/\
 ∀ p,H p=none->Q (.ref p) (upd H p (.lst (tz k.toNat xs).flatten))
def len_rep (xs:List α)(k:Nat):(tz k xs).flatten.length=k*xs.length:=by
 induction k with
 |zero=>simp
 |succ k ih=>rw[replicate_succ,flatten_cons,cr,ih,Nat.succ_mul,Nat.add_comm]
def Gf:cX X (binaryOp .Mult) Mq:=by
 intro Y s U H x y v u Q I rx ry h;obtain⟨l,k,xs,rfl,rfl,hH,h1,h2,hz,q⟩:=h;cases rx;obtain⟨t,rfl⟩:=ry;obtain⟨z,its,n,r,hl,e⟩:=I.lN hH;have hlen:its.toArray.size*k.toNat<=bv:=by rw[ii,<-hl];exact hz
 have hcap:¬ its.toArray.size*k.toNat>(2 ^ 63-1) / 8:=by
  have:(bv:Nat)<=(2 ^ 63-1) / 8:=by decide
  omega
 have hfit:¬ (!Builtin.List.listFitsIndex k)=true:=by
  rw[fitsIndex_both h1 h2];exact Bool.false_ne_true
 have hlong:¬ Builtin.List.listTooLong (its.toArray.size*k.toNat)=true:=by
  rw[qM hlen];exact Bool.false_ne_true
 have hnew:List.foldl (λx1 x2=>x1++x2) #[] (tz (if its.toArray.isEmpty=true then 0 else k.toNat) its.toArray)=(tz k.toNat its).flatten.toArray:=by
  have f0:∀ m:Nat,List.foldl (λx1 x2=>x1++x2) #[] (tz m its.toArray)=(tz m its).flatten.toArray:=λm=>by
   have:=foldl_rep its m [];rw[nil_append]at this;exact this
  rw[f0];cases its with
  |nil=>simp
  |cons a r'=>rw[if_neg (by simp)]
 refine wpAny_binaryOp_repeat_ref (T:="list") (U:="int") (by decide) ⟨_,e,rfl⟩ (λs'=>typeIs_int s' k t) noFill_list_mul F.fills_int_mul F.slot_int_rmul repeat_list F.slot_int_index.lookup
  (call_meets F.slot_int_rmul (typeIs_int s k t) F.entry_int_rmul (F.args_int_rmul_2 _ _) (int___rmul___int_list k t l its.toArray n)
   ⟨e,rfl,⟨_,e,rfl⟩,call_meets F.slot_list_mul ⟨_,e,rfl⟩ F.entry_list_mul (F.args_list_mul_2 _ _) (AutoListH.list___mul___list_int_3 l its.toArray n k t hfit hcap hlong) ⟨e,?_⟩⟩)
 rw[hnew];exact⟨.ref _,_,I.J3 (t':=s.toks) (r.rep k.toNat) (by rw[len_rep,Nat.mul_comm];exact hz),rfl,q _ I.fresh⟩
end
section
variable {prog:Program}{w:World}{A:Around}{E:NV}{s:Shared}
set_option maxRecDepth 100000 in
end
section
variable {X:Cx}
end
variable {o:Option V}
section
variable {κ:Type} [DecidableEq κ]
abbrev gi (kvs:List (κ×V))(k:κ):Option V:=(kvs.find? λkv=>decide (kv.1=k)).map (·.2)
abbrev putK (kvs:List (κ×V))(k:κ)(v:V):List (κ×V):=
 if(kvs.any λkv=>decide (kv.1=k))=true then kvs.map (λkv=>if kv.1=k then(kv.1,v) else kv) else kvs++[(k,v)]
def lx {p:κ×V}{r:List (κ×V)}{k:κ}(e:p.1=k):gi (p::r) k=some p.2:=by simp[gi,find?_cons,e]
def lH {p:κ×V}{r:List (κ×V)}{k:κ}(e:¬ p.1=k):gi (p::r) k=gi r k:=by simp[gi,find?_cons,e]
def rM (k:κ):∀ kvs:List (κ×V),(kvs.any λkv=>decide (kv.1=k))=(gi kvs k).isSome
 | []=>rfl
 |p::r=>by
  rw[any_cons]
  by_cases e:p.1=k
  .simp only[lx e,decide_eq_true e,Bool.true_or,Option.isSome_some]
  .rw[lH e,decide_eq_false e,Bool.false_or];exact rM k r
def fM (kvs:List (κ×V))(k:κ)(v:V):(putK kvs k v).length<=kvs.length+1:=by
 unfold putK
 split
 .rw[ci];omega
 .rw[cr,length_cons,length_nil];omega
def dq.wX {u:Option Value}(r:dq o u):o.isSome=u.isSome:=by
 cases o with
 |none=>cases u with
  |none=>rfl
  |some _=>exact(show False from r).elim
 |some _=>cases u with
  |none=>exact(show False from r).elim
  |some _=>rfl
def KV.val {kvs:List (κ×V)}{vs:List (κ×Value)}(r:KV kvs vs)(k:κ):dq (gi kvs k) (valueAt vs k):=by
 unfold KV at r
 induction r with
 |nil=>exact True.intro
 | @cons p q ps qs h t ih=>
  obtain⟨h1,h2⟩:=h
  by_cases e:p.1=k
  .have e':q.1=k:=h1.symm.trans e;have b:valueAt (q::qs) k=some q.2:=by simp[valueAt,find?_cons,e']
   rw[lx e,b];exact h2
  .have e':¬ q.1=k:=λz=>e (h1.trans z)
   have b:valueAt (q::qs) k=valueAt qs k:=by simp[valueAt,find?_cons,e']
   rw[lH e,b];exact ih
def KV.any {kvs:List (κ×V)}{vs:List (κ×Value)}(r:KV kvs vs)(k:κ):(kvs.any λkv=>decide (kv.1=k))=vs.any λkv=>decide (kv.1=k):=by
 unfold KV at r
 induction r with
 |nil=>rfl
 |cons h t ih=>rw[any_cons,any_cons,ih,h.1]
def KV.F3 {kvs:List (κ×V)}{vs:List (κ×Value)}(r:KV kvs vs)(k:κ)(ry:RelV y u):
  KV (kvs.map λkv=>if kv.1=k then(kv.1,y) else kv) (vs.map λkv=>if kv.1=k then(kv.1,u) else kv):=by
 unfold KV at r⊢
 induction r with
 |nil=>exact .nil
 | @cons p q ps qs h t ih=>
  rw[map_cons,map_cons];refine .cons ?_ ih;obtain⟨h1,h2⟩:=h
  by_cases e:p.1=k
  .rw[if_pos e,if_pos (h1.symm.trans e)];exact⟨h1,ry⟩
  .rw[if_neg e,if_neg (λz=>e (h1.trans z))];exact⟨h1,h2⟩
def KV.put {kvs:List (κ×V)}{vs:List (κ×Value)}(r:KV kvs vs)(k:κ)(ry:RelV y u):KV (putK kvs k y) (stored vs k u):=by
 unfold putK stored;rw[r.any k]
 by_cases e:(vs.any λkv=>decide (kv.1=k))=true
 .rw[if_pos e,if_pos e];exact r.F3 k ry
 .rw[if_neg e,if_neg e];exact Paired.snoc r ⟨rfl,ry⟩
def KV.length {kvs:List (κ×V)}{vs:List (κ×Value)}(r:KV kvs vs):kvs.length=vs.length:=Paired.length r
end
variable {P:Program}{w:World}
def oM {k:Key}(r:RelV (kV k) u):(aA P w).is k u=true:=by
 cases k with
 |inl i=>obtain⟨t,e⟩:=(show ∃ t,u=Value.int i t from r);subst e;exact si P w i t
 |inr x=>obtain⟨t,e⟩:=(show ∃ t,u=Value.str x t from r);subst e;exact rK P w x t
def n9 {P:Program}{w:World}:∀ {ks:List Key}{us:List Value},Vals (ks.map kV) us->ItemsAre (aA P w) ks us
 | [],_,r=>by rw[List.map_nil]at r;cases r;exact .nil
 |k::ks,_,r=>by
  rw[map_cons]at r;cases r with
  |cons h t=>exact .cons (oM h) (n9 t)
@[reducible]def KT (H:Hp):List (List Key×V)->List (List Key×Addr×Value)->Prop:=Paired λp q=>p.1=q.1/\H q.2.1=some (.tup (p.1.map kV))/\RelV p.2 q.2.2
variable {xs:List (List Key×Addr×Value)}{kvs:List (List Key×V)}
def KT.val (r:KT H kvs xs)(k:List Key):dq (gi kvs k) ((atKey xs k).map (·.2)):=by
 induction r with
 |nil=>exact True.intro
 | @cons p q ps qs h t ih=>
  obtain⟨h1,_,h2⟩:=h
  by_cases e:p.1=k
  .have e':q.1=k:=h1.symm.trans e;have b:atKey (q::qs) k=some q.2:=by simp[atKey,find?_cons,e']
   rw[lx e,b];exact h2
  .have e':¬ q.1=k:=λz=>e (h1.trans z)
   have b:atKey (q::qs) k=atKey qs k:=by simp[atKey,find?_cons,e']
   rw[lH e,b];exact ih
def KT.F3 (r:KT H kvs xs)(k:List Key)(ry:RelV y u):
  KT H (kvs.map λkv=>if kv.1=k then(kv.1,y) else kv) (xs.map (putAt k u)):=by
 induction r with
 |nil=>exact .nil
 | @cons p q ps qs h t ih=>
  rw[map_cons,map_cons];refine .cons ?_ ih;obtain⟨h1,h2,h3⟩:=h;unfold putAt
  by_cases e:p.1=k
  .rw[if_pos e,if_pos (h1.symm.trans e)];exact⟨h1,h2,ry⟩
  .rw[if_neg e,if_neg (λz=>e (h1.trans z))];exact⟨h1,h2,h3⟩
def KT.put (r:KT H kvs xs)(k:List Key){b:Addr}(hb:H b=some (.tup (k.map kV)))(ry:RelV y u):
  KT H (putK kvs k y) (storedH xs k b u):=by
 have e:(kvs.any λkv=>decide (kv.1=k))=(atKey xs k).isSome:=by
  rw[rM,(r.val k).wX,Option.isSome_map]
 unfold putK storedH;rw[e]
 by_cases q:(atKey xs k).isSome=true
 .rw[if_pos q,if_pos q];exact r.F3 k ry
 .rw[if_neg q,if_neg q];exact Paired.snoc r ⟨rfl,hb,ry⟩
variable {H':Hp}
def KT.keeps (r:KT H kvs xs)(ht:∀ b ys,H b=some (.tup ys)->H' b=some (.tup ys)):KT H' kvs xs:=
 Paired.FU r λ_ _ z=>⟨z.1,ht _ _ z.2.1,z.2.2⟩
section
variable {P:Program}{w:World}{H:Hp}{h:Heap}{a:Addr}
def EK {u:HO}(ok:hE P w H h)(e:Rd H a u):aP P w H h a u:=e.ok ok
def j7 {kvs:List (Key×V)}(ok:hE P w H h)(e:Rd H a (.dK kvs)):kvs.length<=bv/\(a ==sysModules)=false/\∃ vs,KV kvs vs/\h.DictOf (aA P w) a vs:=
 show aP P w H h a (.dK kvs) from EK ok e
def vx {kvs:List (Key×V)}(ok:hE P w H h)(e:H a=some (.dK kvs)):kvs.length<=bv/\(a ==sysModules)=false/\∃ vs,KV kvs vs/\h.DictOf (aA P w) a vs:=j7 ok (.inl e)
def uQ {ks:List Key}(ok:hE P w H h)(e:H a=some (.tup (ks.map kV))):(tupleKind (aA P w)).is h ks a:=by
 obtain⟨_,its,r,o,h1,h2,n,h3⟩:=(show aP P w H h a (.tup (ks.map kV)) from ok a _ e);exact⟨o,its.toArray,n,h1,h2,h3,by simpa using n9 r⟩
def zL (ok:hE P w H h)(e:Rd H a (.dT kvs)):kvs.length<=bv/\(a ==sysModules)=false/\
  ∃ xs,KT H kvs xs/\h.DictOfH (tupleKind (aA P w)) a xs:=by
 obtain⟨z,y,xs,r,o,es,ep,h1,h2,h3,h4,h5⟩:=(show aP P w H h a (.dT kvs) from EK ok e);refine⟨z,y,xs,r,o,es,ep,h1,h2,h3,h4,λx hx=>?_,h5⟩;have all:∀ {l:List (List Key×V)}{m:List (List Key×Addr×Value)},KT H l m->∀ x ∈ m,(tupleKind (aA P w)).is h x.1 x.2.1:=by
  intro l m q
  induction q with
  |nil=>intro x hx;exact nomatch hx
  | @cons p q ps qs hq t ih=>
   intro x hx;rcases nw.mp hx with e|hx
   .subst e;exact uQ ok (by rw[<-hq.1];exact hq.2.1)
   .exact ih x hx
 exact all r x hx
def Kv (ok:hE P w H h)(e:H a=some (.dT kvs)):kvs.length<=bv/\(a ==sysModules)=false/\
  ∃ xs,KT H kvs xs/\h.DictOfH (tupleKind (aA P w)) a xs:=zL ok (.inl e)
end
abbrev FO (H:Hp)(a:Addr)(y:V)(r:Option V):Prop:=
 (∃ kvs k,Rd H a (.dK kvs)/\y=kV k/\r=gi kvs k)\/∃ kvs k b,Rd H a (.dT kvs)/\y=.ref b/\H b=some (.tup (k.map kV))/\r=gi kvs k
abbrev Kx (H:Hp)(a:Addr)(y v:V)(H':Hp):Prop:=
 (∃ kvs k,H a=some (.dK kvs)/\y=kV k/\kvs.length<bv/\H'=upd H a (.dK (putK kvs k v)))\/
 ∃ kvs k b,H a=some (.dT kvs)/\y=.ref b/\H b=some (.tup (k.map kV))/\kvs.length<bv/\H'=upd H a (.dT (putK kvs k v))
section
variable {X:Cx}{Y:NW}{U:St}{H:Hp}{s:Shared}{a:Addr}{y v:V}{u r:Value}{o:Option V}{A:Around}{E:NV}
def Inv.big (I:Inv X Y U H s):sysModules<s.heap.objs.size:=by
 have h:mainGlobals<s.heap.objs.size:=(I.mod.glob.keeps I.bk).lt;exact Nat.lt_trans (by decide) h
def xk {Q:NV}(hu:A.units+1<cLine)(I:Inv X Y U H s)(g:FO H a y (some v))(ry:RelV y u)(h:∀ w' s',Inv X Y U H s'->RelV v w'->Q w' s'):
  wpAny (model X.prog X.w) A (getItem (.ref a) u) Q E s:=by
 rcases g with⟨kvs,k,e,ey,l⟩|⟨kvs,k,b,e,ey,eb,l⟩
 .subst ey;obtain⟨z,hd,vs,rel,dd⟩:=j7 I.hok e;obtain⟨w',hw,rw'⟩:=dq.some_of (v:=v) (o:=valueAt vs k) (by rw[l];exact rel.val k);exact wpAny_getItem_of (oM ry) dd.mapOf hw (h w' _ (I.tok _) rw')
 .subst ey;cases(show u=Value.ref b from ry);obtain⟨z,hd,xs,rel,dd⟩:=zL I.hok e;obtain⟨w',hw,rw'⟩:=dq.some_of (v:=v) (o:=(atKey xs k).map (·.2)) (by rw[l];exact rel.val k);obtain⟨p,hp,hp2⟩:=pc.mp hw;refine wpAny_getItem_heap (tupleKind_room_in1 hu) (uQ I.hok eb) dd hp ?_;rw[hp2];exact h w' _ (I.tok _) rw'
def qi {h':Heap}{t':Nat}{ob:HO}(I:Inv X Y U H s)(mu:Jn (H a))(hs:Heap.SameBut a s.heap h')(he:∃ q,h'.get? a=some q) (new:aP X.prog X.w (upd H a ob) h' a ob):
  Inv X Y U (upd H a ob) { s with heap:=h',toks:=t' }:=
 I.write (x:=a) (e:=a) mu (.inl rfl) (λb q hb z=>(hs.2 b hb).trans z) he new
def ve {h':Heap}{kvs:List (Key×V)}{vs:List (Key×Value)}(z:kvs.length<=bv)(hd:(a ==sysModules)=false)(rel:KV kvs vs)(dd:h'.DictOf (aA P w) a vs):
  aP P w H' h' a (.dK kvs):=⟨z,hd,vs,rel,dd⟩
def yA {Q:NU}(hu:A.units+1<cLine)(I:Inv X Y U H s)(g:Kx H a y v H')(ry:RelV y u)(rv:RelV v r)(h:∀ s',Inv X Y U H' s'->Q () s'):
  wpAny (model X.prog X.w) A (setItem (.ref a) u r) Q E s:=by
 rcases g with⟨kvs,k,e,ey,l,eH⟩|⟨kvs,k,b,e,ey,eb,l,eH⟩
 .subst ey eH;obtain⟨z,hd,vs,rel,dd⟩:=vx I.hok e;have hz:vs.length<=bv:=by rw[<-rel.length];exact z
  have hl:(putK kvs k v).length<=bv:=by have:=fM kvs k v;omega
  refine wpAny_setItem_pairs (hsz:=hz) (oM ry) dd λh' dd' hs=>h _ ?_
  have he:∃ q,h'.get? a=some q:=let⟨q,_,_,hq,_⟩:=dd';⟨q,hq⟩;exact qi I (by rw[e];exact True.intro) hs he (ve hl hd (rel.put k rv) dd')
 .subst ey eH;cases(show u=Value.ref b from ry);obtain⟨z,hd,xs,rel,dd⟩:=Kv I.hok e;have hz:xs.length<=bv:=by rw[<-Paired.length rel];exact z
  have hl:(putK kvs k v).length<=bv:=by have:=fM kvs k v;omega
  refine wpAny_setItem_heap (hsz:=hz) (tupleKind_room_in1 hu) (uQ I.hok eb) dd λh' dd' hs=>h _ ?_
  obtain⟨q,es,ep,hq,h2,h3,h4,_,h5⟩:=dd';refine qi I (by rw[e];exact True.intro) hs ⟨q,hq⟩ ⟨hl,hd,_,(rel.put k eb rv).keeps λc ys ec=>?_,q,es,ep,hq,h2,h3,h4,h5⟩;rw[aj (IS ec e (λz=>nomatch z))];exact ec
end
section
variable {X:Cx}{Y:NW}{U:St}{H:Hp}{s:Shared}{a:Addr}{kvs:List (Key×V)}{k:Key}{u:Value}{A:Around}{E:NV}
end
def rP {X:Cx}{a:Addr}(I:Inv X Y U H s)(g:FO H a y o):s.TypeIs (.ref a) "dict":=by
 rcases g with⟨kvs,k,e,_,_⟩|⟨kvs,k,b,e,_,_,_⟩
 .obtain⟨_,_,vs,_,dd⟩:=j7 I.hok e;exact dd.typeIs
 .obtain⟨_,_,xs,_,dd⟩:=zL I.hok e;exact dd.typeIs
section
variable {X:Cx}{o i e value:Expr}{pos pos' tpos:Pos}{td ty tv:TE}
end
def AR (h:Heap)(hb:sysModules<h.objs.size):aP P w H (h.push { cls:=.type "dict",data:=.dict #[] }) h.objs.size (.dK []):=
 ⟨Nat.zero_le _,beq_eq_false_iff_ne.mpr (Ne.symm (sn hb)),[],.nil,Heap.DictOf.new h⟩
section
variable {X:Cx}{pos:Pos}
end
section
variable {X:Cx}{Y:NW}{U:St}{H:Hp}{s:Shared}{a:Addr}{y d:V}{u r:Value}{o:Option V}{A:Around}{E:NV}
end
section
variable {X:Cx}{o e f:Expr}{apos cpos:Pos}{td ty tx:TE}
end
section
variable {X:Cx}{Y:NW}{U:St}{H:Hp}{s:Shared}{a:Addr}{kvs:List (Key×V)}{A:Around}{E:NV}
end
section
variable {X:Cx}{Y:NW}{U:St}{H:Hp}{s:Shared}{a:Addr}{y:V}{u:Value}{A:Around}{E:NV}
end
end L2
namespace Att
open PySem PySem.W PySem.Calls PyProof.Rows
variable {P:Params}
def kJ {h:Heap}:∀ (ns:List Int) (vs:List Value),WellAll P h vs (ns.map WData.int)->IntsAre vs ns:=by
 intro ns
 induction ns with
 |nil=>
  intro vs w;rw[List.map_nil]at w;cases w;exact .nil
 |cons n ns ih=>
  intro vs w;rw[map_cons]at w;cases w with
  |cons a b=>
   cases a;exact .cons _ _ (ih _ b)
variable {l:OpenLaw}
def xu {n:Nat}(hn:l.most=some n){h:Heap}{args:List WData}{vals:List Value}
  (hpre:l.row.toRowW.claim.pre args=true) (hwl:WellAll P h vals args):
  ∃ a vs ns,vals=[Value.ref a]/\args=[WData.list (ns.map WData.int)]/\h.get? a=some { cls:=.type "list",data:=.seq vs.toArray }/\IntsAre vs ns/\ns.length<=n:=by
 have hsh:WShape.hasAll [] args [.list .int]=true:=(pre_splitW hpre).1;have hc:l.pre.holds [] { args:=args }=true:=(pre_splitW hpre).2;obtain⟨d,r,rfl,h1,h2⟩:=hasAllW_cons hsh;obtain rfl:=hasAllW_nil h2;obtain⟨xs,rfl,h3⟩:=hasW_list h1;obtain⟨ns,rfl⟩:=items_int h3;have hlen:ns.length<=n:=by
  unfold OpenLaw.pre at hc;have h4:(WTm.not (.lt (.lit (.int (n:Int))) (.len (.arg 0)))).holds [] { args:=[.list (ns.map .int)] }=true:=by
   have h4:=(holds_andW hc).1;rw[hn]at h4;exact h4
  have h5:=condW_of h4 (w_not (w_lt w_lit (w_len_list (w_arg rfl))));rw[ci]at h5;refine Nat.le_of_not_lt λq=>?_
  have q':(n:Int)<((ns.length:Nat):Int):=by omega
  first
   |(rw[decide_eq_true q']at h5;exact absurd h5 (by decide))
   |(simp at h5;omega)
 cases hwl with
 |cons w1 w2=>
  cases w2;cases w1 with
  |list ho hall=>exact⟨_,_,ns,rfl,rfl,ho,kJ ns _ hall,hlen⟩
def yq (l:OpenLaw)(args:List WData):l.row.toRowW.claim.post args (.bool true) args=true:=
 postW_of (r:=l.row.toRowW) (X:=(true ==true))
  (show WShape.has [] (.bool true) .bool=true by first|rfl|decide|simp[WShape.has,WShape.arms,WShape.armsAll])
  (show(WTm.eq .res (.lit (.bool true))).value [] { args:=args,res:=some (.bool true),after:=args }=some (.bool (true ==true)) from w_eq_bool (w_res rfl) w_lit) rfl
def rg {n:Nat}{q:Program}{loose:List Str}{XP:(Str->Option Value)->Heap->Prop}{YP:World->Heap->Prop}{d:DefRec}
  (hn:l.most=some n) (hdf:d.params.defaults=[])
  (call:∀ (w:World) (s₀ s₁:Shared) (mg mb:NX) (fa:Addr) (o:Obj) (pm cd doc:Value) (a:Addr) (vs:List Value) (ns:List Int),
   Ground q loose [] XP w s₀ mg mb s₁.heap->YP w s₁.heap->
   s₁.heap.get? fa=some o->o.data=.func (docDef d.name d.params d.body d.scope pm cd doc)->s₁.heap.CodeRec cd d.name->mg d.name=some (.ref fa)->
   s₁.heap.get? a=some { cls:=.type "list",data:=.seq vs.toArray }->IntsAre vs ns->ns.length<=n->s₁.gens=#[]->
   codeAny (model l.prog w) callerA (.call (.ref fa) ⟨[.ref a],[]⟩) (λr s'=>r=.ok (.ret (.bool true))/\OldK s₁.heap s'.heap/\s'.os=s₁.os/\AllBare s'.gens) s₁):
  WalkO q loose XP YP l.row.toRowW d [] (λf vs=>PySem.call f vs):=by
 intro w s₀ s₁ mg mb G Y fa o pm cd doc dV kV ho hd hcd hD hmg hg args vals as hpre hlay hrd hwl hlo;obtain rfl:dV=.none:=Dflts.none hD hdf;obtain rfl:kV=.none:=Dflts.noKw hD;obtain⟨a,vs,ns,rfl,rfl,hobj,hints,hlen⟩:=xu hn hpre hwl;refine enter_call (codeAny_mono (call w s₀ s₁ mg mb fa o pm cd doc a vs ns G Y ho (fd_plain hd) hcd hmg hobj hints hlen hg) λr s' hq=>?_);obtain⟨rfl,h2,h3,h4⟩:=hq;exact⟨.inl ⟨.bool true,.bool true,[],rfl,λ_=>rfl,.bool true,yq l _,λ_=>⟨List.Pairwise.nil,λ_ hm=>(nomatch hm)⟩⟩,h2,h3,h4⟩
section
variable {prog:Program}{w:World}{A:Around}{E:NV}{s:Shared}{K:Frag}
end
end Att
namespace L2
open PySem PySem.Spec PyProof.Rows
def n8:∀ {vs:List Value}{ns:List Int},IntsAre vs ns->Vals (ns.map V.int) vs
 |_,_,.nil=>.nil
 |_,_,.cons n t h=>.cons ⟨t,rfl⟩ (n8 h)
abbrev Fo (H:Hp):Prop:=∀ b,H b=none\/∃ o xs,H b=some (.frz o (.lst xs))
def zw {P:Program}{w:World}{K:W.Frag}{mg mb:NX}{CX:uD}{k:Nat}{fa a:Addr}{fd:FuncData}{x:Str}{sp:Sp}{s₁:Shared}{vs:List Value}{ns:List Int}
  (KX:K.In s₁.heap) (hns:s₁.heap.Ns mainGlobals mg) (hb:s₁.heap.Ns builtinsNs mb) (hbb:∀ x:Str,x≠"__name__"->mb x=bootBuiltins x) (hlim:s₁.heap.NoLimit) (hg:s₁.gens=#[])
  (ha:s₁.heap.get? a=some { cls:=.type "list",data:=.seq vs.toArray }) (hi:IntsAre vs ns) (hl:ns.length<=bv) (hr:bO k callerA)
  (F:∀ base:Heap,K.In base->base.Ns mainGlobals mg->dr P w K mg base CX k fa fd [x] sp) (hbind:∀ (s:Shared) (u:Value),BindsTo s fd ⟨[u],[]⟩ [(x,u)])
  (hsp:∀ H:Hp,Fo H->bb K H a (ns.map V.int)->sp [.ref a] H (λv _=>v=.bl true) λ_ _=>False)
  (hCX:∀ H e s',CX [] H s₁ (λ_ _=>False) e s'->False):
  codeAny (model P w) callerA (.call (.ref fa) ⟨[.ref a],[]⟩) (λr s'=>r=.ok (.ret (.bool true))/\OldK s₁.heap s'.heap/\s'.os=s₁.os/\AllBare s'.gens) s₁:=by
 have rv:=n8 hi;have lenV:=hi.length;have core:∀ H:Hp,Fo H->bb K H a (ns.map V.int)->hE P w H s₁.heap->(∀ b,H b≠none->b=a)->(H a≠none->K.lookup a=none)->
   codeAny (model P w) callerA (.call (.ref fa) ⟨[.ref a],[]⟩) (λr s'=>r=.ok (.ret (.bool true))/\OldK s₁.heap s'.heap/\s'.os=s₁.os/\AllBare s'.gens) s₁:=by
  intro H hO hS hok hA hK;have base_of:∀ {b:Addr}{o:Obj},s₁.heap.get? b=some o->H b=none->(pw s₁.heap H).get? b=some o:=λe n=>zF e n
  have Ck:∀ {b:Addr}{o:Obj}{es:Array DictEntry}{ep:Nat},s₁.heap.get? b=some o->o.data=.dict es ep->H b=none:=λ{b o es ep} e d=>by
   cases q:H b with
   |none=>rfl
   |some u=>
    have e':b=a:=hA b (by rw[q];simp);subst e';rw[ha]at e;cases e;have d':Data.seq vs.toArray _=Data.dict es ep:=d;cases d'
  have nsK:∀ {b:Addr}{m:NX},s₁.heap.Ns b m->(pw s₁.heap H).Ns b m:=λ{b m} ⟨o,es,ep,e,d,r⟩=>⟨o,es,ep,base_of e (Ck e d),d,r⟩
  have hKb:K.In (pw s₁.heap H):=λb o e=>base_of (KX b o e) (by
   cases q:H b with
   |none=>rfl
   |some u=>
    have e':b=a:=hA b (by rw[q];simp);subst e';rw[hK (by rw[q];simp)]at e;cases e)
  have hM:Mod K mg (pw s₁.heap H):=⟨hKb,nsK hns,⟨mb,nsK hb,hbb⟩,let⟨mc,h1,h2⟩:=hlim;⟨mc,nsK h1,h2⟩⟩;have e0:uc P w K mg (pw s₁.heap H) callerA [] s₁ H:=⟨rfl,hM,λb o e=>CD e,Nat.le_of_eq (xi _ _),trivial,λb hb=>absurd (show b ∈ ([]:List Addr) from hb) (by simp),hok,.of_eq hg⟩;refine codeAny_mono ((F _ hKb (nsK hns)).run callerA [] s₁ H ⟨[.ref a],[]⟩ [.ref a] [.ref a] _ _ hr e0 (hbind s₁ (.ref a)) (.cons rfl .nil) (hsp H hO hS)) λr s' h=>?_
  cases r with
  |error e=>exact(hCX H e s' h).elim
  |ok fl=>
   cases fl with
   |next=>exact False.elim h
   |brk=>exact False.elim h
   |cont=>exact False.elim h
   |ret u=>
    obtain⟨v,H',os,bare,un,hok',r',q⟩:=h;have q':v=.bl true:=q;subst q';obtain rfl:u=Value.bool true:=r';refine⟨rfl,OldK.of_keep λb o e=>?_,os,bare⟩;cases q:H b with
    |none=>exact un.keep b o e q (by intro z;exact absurd (show b ∈ ([]:List Addr) from z) (by simp)) (by simp)
    |some u=>
     rcases hO b with z|⟨ob,xs,z⟩
     .rw[q]at z;cases z
     .have z2:=un.frzs b ob _ z;obtain⟨e1,_⟩:=hok b _ z;obtain⟨e2,_⟩:=hok' b _ z2;rw[e]at e1;cases e1;exact e2
 cases hk:K.lookup a with
 |some o=>
  have e:=KX a o hk;rw[ha]at e;cases e;refine core (λ_=>none) (λ_=>.inl rfl) (.inr ⟨_,vs.toArray,_,hk,rfl,rfl,rfl,by rw[ii,lenV];exact hl,by simpa using rv⟩) (λb u z=>by have z':(none:Option HO)=some u:=z;cases z') (λb z=>absurd rfl z) λz=>absurd rfl z
 |none=>
  refine core (λb=>if b=a then some (.frz { cls:=.type "list",data:=.seq vs.toArray } (.lst (ns.map V.int))) else none) (λb=>?_) (.inl (.inr ⟨{ cls:=.type "list",data:=.seq vs.toArray },if_pos rfl⟩)) (λb u z=>?_) (λb z=>?_) λ_=>hk
  .by_cases hb:b=a
   .exact .inr ⟨_,_,if_pos hb⟩
   .exact .inl (if_neg hb)
  .by_cases hb:b=a
   .have z':=(if_pos hb).symm.trans z;cases z';subst hb;exact⟨ha,by rw[ci];exact hl,vs,_,rv,ha⟩
   .have z':=(if_neg hb).symm.trans z;cases z'
  .by_cases hb:b=a
   .exact hb
   .exact absurd (if_neg hb) z
def CF {l:W.OpenLaw}{n k:Nat}{q:Program}{loose:List Str}{XP:(Str->Option Value)->Heap->Prop}{YP:World->Heap->Prop}{d:DefRec}{K:Params->W.Frag}{CX:World->uD}{sp:World->Sp}{x:Str}
  (hn:l.most=some n) (hn2:n<=bv) (hdf:d.params.defaults=[]) (hr:bO k callerA)
  (hY:∀ (w:World) (h:Heap),YP w h->(K w.params).In h)
  (F:∀ (w:World) (mg:NX) (fa:Addr) (h:Heap),(K w.params).In h->h.Ns mainGlobals mg->mg d.name=some (.ref fa)->
   ∃ fd:FuncData,(∀ (s:Shared) (u:Value),BindsTo s fd ⟨[u],[]⟩ [(x,u)])/\
    ∀ base:Heap,(K w.params).In base->base.Ns mainGlobals mg->dr l.prog w (K w.params) mg base (CX w) k fa fd [x] (sp w))
  (hsp:∀ (w:World) (H:Hp) (a:Addr) (ns:List Int),ns.length<=n->Fo H->bb (K w.params) H a (ns.map V.int)->sp w [.ref a] H (λv _=>v=.bl true) λ_ _=>False)
  (hCX:∀ (w:World) (H:Hp) (s:Shared) (e:Value) (s':Shared),CX w [] H s (λ_ _=>False) e s'->False):
  W.WalkO q loose XP YP l.row.toRowW d [] (λf vs=>PySem.call f vs):=by
 refine Att.rg hn hdf λw s₀ s₁ mg mb fa o pm cd doc a vs ns G Y ho hd hcd hmg hobj hints hlen hg=>?_
 have KX:=hY w _ Y;obtain⟨fd,hb,hF⟩:=F w mg fa _ KX G.T.g hmg;exact zw KX G.T.g G.T.b G.T.builtins G.T.nolimit hg hobj hints (Nat.le_trans hlen hn2) hr hF hb (λH hO hS=>hsp w H a ns hlen hO hS) λH e s'=>hCX w H s₁ e s'
section
variable {P:Program}{w:World}{K:W.Frag}{mg:NX}{base:Heap}
end
def dD {n:Nat}(h:n<=1000):n<bv:=Nat.lt_of_le_of_lt h (by decide)
section
variable {X:Cx}
end
end L2
namespace L2
open PySem PySem.Spec PySem.W PyProof.Rows PySem.Builtin PySem.Builtin.ObjectAttr
variable {rs:List Addr}
section
variable {prog:Program}{w:World}{A:Around}{E:NV}{s:Shared}{K:W.Frag}{x C:Addr}{ox od:Obj}{name:Str}{expr:Bool}{v:Value}{Q:NV}
def sP:builtinKind "BaseException.__getattribute__"=some .slot:=by decide+kernel
def ot:splitId "BaseException.__getattribute__"=some ("BaseException","__getattribute__"):=by decide+kernel
def Cg (X:K.In s.heap)(I:W.InstAt s.heap x ox C (some od))(hga:W.findIn K (.ref C) "__getattribute__"=some (some (.builtin "BaseException.__getattribute__"))) (hgn:W.findIn K (.ref C) "__getattr__"=some none)
  (hb:W.mroIn K C (.type "BaseException")=some true) (hf:W.findObj K C (some od) name=some (.value v)) (hh:W.handedIn v=true) (h:Q v { s with toks:=s.toks+1 }):
  wpAny (model prog w) A (getAttr (.ref x) name expr) Q E s:=by
 obtain⟨hp,g,d,t,os⟩:=s;have L0:=I.type (M:=model prog w);have L1:=looks_findIn (M:=model prog w) X hga;have L2':=looks_findIn (M:=model prog w) X hgn;have L3:=looks_find (M:=model prog w) X I hf;have L4:Looks (model prog w) hp (isInstance (.ref x) (.type "BaseException")) true:=I.type.andThen (looks_mroIn X hb);unfold getAttr getAttrBy;refine ad (wpAny_mkText (bd (ad (L0.at (ad (L1.at ?_))))));have e1:(Value.builtin "BaseException.__getattribute__" ==Value.builtin "object.__getattribute__")=false:=by decide+kernel
 dsimp only;rw[e1,Bool.and_false];show wpAny _ _ (getAttrByItsOwn _ _ _ _ _ _) _ _ _;unfold getAttrByItsOwn hookBefore;refine ad (L2'.at ?_);refine ad (wpAny_attempt (bd ?_));have e2:(expr&&onTheHeap (Value.builtin "BaseException.__getattribute__"))=false:=by cases expr<;>rfl
 unfold callGetattribute;rw[e2];show wpAny _ _ (boundAndCalled _ _ _) _ _ _;unfold boundAndCalled;rw[PySem.F.attr_ValueError.ga.bind];refine ad (am (wpAny_call (codeAny_call_builtin PySem.F.attr_ValueError.ga.plain PySem.F.entry_bexc_ga ?_)));refine @check_slot (model prog w) _ _ _ "BaseException.__getattribute__" "BaseException" "__getattribute__" (.ref x) [.str name t] [] _ sP ot L4 (PySem.F.args_bexc_ga (.ref x) (.str name t)) ?_;unfold Builtin.«object.__getattribute__»;refine ad (am (ad (am (ad (L0.at (ad (L3.at ?_)))))));refine am ?_;show wpAny _ _ (handedOut v) _ _ _;rw[handedOut_of hh];exact am h
abbrev Bt:Value->Bool
 | .ref _=>true
 |_=>false
abbrev cp:List Value:=[.type "ValueError",.type "Exception",.type "BaseException",.type "object"]
abbrev d8 (l:List Value):Bool:=l.dropWhile Bt ==cp
def dW:∀ {l:List Value},d8 l=true->∃ rs:List Addr,l=rs.map Value.ref++cp
 | [],e=>by cases e
 |c::r,e=>by
  by_cases h:Bt c=true
  .have e':d8 r=true:=by
    unfold d8 at e⊢;rw[List.dropWhile_cons_of_pos h]at e;exact e
   obtain⟨rs,q⟩:=dW e';cases c with
   |ref a=>exact⟨a::rs,by rw[q];rfl⟩
   |_=>cases h
  .unfold d8 at e;rw[List.dropWhile_cons_of_neg h]at e;exact⟨[],beq_iff_eq.mp e⟩
def lZ (self:Value):∀ rs:List Addr,refuseLoop self "__setattr__" (rs.map Value.ref++cp)=pure ()
 | []=>PySem.F.store_ValueError.passes self
 |a::r=>by rw[map_cons,cons_append,refuseLoop_ref];exact lZ self r
structure c8 (K:W.Frag) (C:Addr):Prop where
 mt:W.typeIn K (.ref C)=some (.type "type")
 ov:(W.clsIn K C).any (λcd=>d8 cd.mro)=true
 hd:W.hasDictIn K C=true
 ga:W.findIn K (.ref C) "__getattribute__"=some (some (.builtin "BaseException.__getattribute__"))
 gn:W.findIn K (.ref C) "__getattr__"=some none
 sa:W.findIn K (.ref C) "__setattr__"=some (some (.builtin "object.__setattr__"))
def c8.mro (c:c8 K C):∃ (cd:ClassData) (rs:List Addr),W.clsIn K C=some cd/\cd.mro=rs.map Value.ref++cp:=by
 obtain⟨cd,h1,h2⟩:=W.any_some c.ov;obtain⟨rs,h3⟩:=dW h2;exact⟨cd,rs,h1,h3⟩
def qS (h:cp.contains v=true):(rs.map Value.ref++cp).contains v=true:=by
 rw[List.contains_eq_mem,decide_eq_true_eq]at h⊢;exact im _ h
def wa:(rs.map Value.ref++cp).isEmpty=false:=by cases rs<;>rfl
def c8.sub (c:c8 K C)(h:cp.contains v=true):W.mroIn K C v=some true:=by
 obtain⟨cd,rs,h1,h2⟩:=c.mro;unfold W.mroIn;rw[h1,Option.bind_some,h2,if_neg (by rw[wa];decide),qS h]
variable {R:Result->Shared->Prop}
def sM {tk:Tok}{odo:Option Obj}(X:K.In s.heap)(I:W.InstAt s.heap x ox C odo)(c:c8 K C)(ht:W.findIn K (.ref C) name=some none)
  (h:wpAny (model prog w) A.in1 (storeInOwnDict (.ref x) (.ref C) (.str name tk) name v false)
   (λfin s'=>match fin with| .done f=>R (.ok f) s'| .again c'=>c'.quiet=true/\codeAny (model prog w) A c' R s') (λe s'=>R (.error e) s') s):
  codeAny (model prog w) A (.call (.builtin "object.__setattr__") ⟨[.ref x,.str name tk,v],[]⟩) R s:=by
 have SF:=PySem.F.store_object;obtain⟨cd,rs,hc,hm⟩:=c.mro;have sub:Looks (model prog w) s.heap (isInstance (.ref x) (.type "object")) true:=I.type.andThen (looks_mroIn X (c.sub (by decide+kernel)));refine codeAny_call_builtin SF.slot.plain SF.entry (@check_slot (model prog w) _ _ s "object.__setattr__" "object" "__setattr__" (.ref x) [.str name tk,v] [] _ SF.kind SF.split sub (SF.args (.ref x) (.str name tk) v) ?_);have hl:Looks (model prog w) s.heap (mroOf (.ref C)) cd.mro:=(looks_clsIn X hc).andThen .now;rw[osa_eq,refuse_eq];refine ad (ad (I.type.here (ad (hl.here ?_))));rw[hm,lZ];refine am (ad (I.type.here (ad ((looks_findIn X ht).here (ad (am ?_))))));exact h
end
variable {Q:NV}{u:Value}
section
variable {X:Cx}{Y:NW}{U:St}{H:Hp}{s:Shared}{a C dx:Addr}{fs:List (Str×V)}{f:Str}{v:V}{A:Around}{E:NV}{fr:Bool}
def xl {b:Bool}(I:Inv X Y U H s)(e:H a=some (.exc C (some dx) fs fr))(c:c8 X.K C)(n:fm X.K C f)(l:fs.lookup f=some v)
  (h:∀ u s',Inv X Y U H s'->RelV v u->Q u s'):wpAny (model X.prog X.w) A (getAttr (.ref a) f b) Q E s:=by
 obtain⟨⟨vs,ho,_⟩,z⟩:=I.hok a _ e;rcases z with⟨z,_⟩|⟨d,ed,_,_,_,mA,hn,r,_⟩
 .cases z
 cases ed;obtain⟨u,hu,ru⟩:=dq.some_of (v:=v) (o:=mA f) (by rw[<-l];exact r f);obtain⟨od,hod,hl⟩:=jw hn;refine Cg (ox:={ cls:=.ref C,dict:=some dx,data:=.fields vs }) (od:=od) I.bV ⟨ho,rfl,rfl,hod⟩ c.ga c.gn (c.sub (by decide+kernel)) (W.findObj_own c.hd n rfl (by rw[hl,hu])) (nJ ru) (h u _ (I.tok _) ru)
def uX {y:V}{Q:NU}(I:Inv X Y U H s)(e:H a=some (.exc C (some dx) fs fr))(c:c8 X.K C)(n:fm X.K C f)(hl:fs.length<1000)(ry:RelV y u)
  (h:∀ s',Inv X Y U (upd H a (.exc C (some dx) (cY f y fs) fr)) s'->Q () s'):wpAny (model X.prog X.w) A (setAttr (.ref a) f u) Q E s:=by
 obtain⟨⟨vs,ho,zz⟩,z⟩:=id (I.hok a _ e);rcases z with⟨z,_⟩|⟨d,ed,hown,_,hne,mA,hn,r,wi⟩
 .cases z
 cases ed;obtain⟨od,hod,hlk⟩:=jw hn;have hz:(fs.map (·.1)).length<=bv:=by rw[ci,sizeLine_eq];omega
 have J:W.InstAt s.heap a { cls:=.ref C,dict:=some dx,data:=.fields vs } C (some od):=⟨ho,rfl,rfl,hod⟩;refine W.set_plain I.bV J c.sa (sM (s:={ s with toks:=s.toks+1 }) I.bV J c n ?_);obtain⟨cd,hc,hd'⟩:=W.any_some c.hd;refine ad (am (ad (ad (wpAny_loadPart ho (ad (W.Looks.here (s:={ s with toks:=s.toks+1 }) (W.looks_clsIn I.bV hc) ?_))))));rw[hd'];refine am (a:=some dx) (ad (am (ad ?_)));refine wpAny_nsSet1 (s:={ s with toks:=s.toks+1 }) hn λh' hn2 hs2=>?_
 obtain⟨oD,esD,epD,hoD,hdD,hcD⟩:=hn2.count (PySem.Within.cons f u wi);refine ad (wpAny_lookBehind hoD (by rw[hdD];exact pastItsLine_dict (Nat.le_trans hcD (by rw[length_cons];omega))) ?_);refine am (h _ ?_);refine I.write (x:=a) (e:=dx) (by rw[e];exact True.intro) (.inr hown) (λb q hb z=>(hs2.2 b hb).trans z) ⟨oD,hoD⟩ ?_;refine⟨⟨vs,(hs2.2 _ (Ne.symm hne)).trans ho,zz⟩,.inr ⟨dx,rfl,by rw[aj hne];exact hown,?_,hne,_,hn2,λg=>?_,λg hg=>?_⟩⟩
 .have:=fH f y fs;omega
 .show dq ((cY f y fs).lookup g) (if g=f then some u else mA g);rw[eO]
  by_cases q:g=f
  .rw[if_pos q,if_pos q];exact ry
  .rw[if_neg q,if_neg q];exact r g
 .by_cases q:g=f
  .rw[q];exact(dB f y fs).1
  .refine(dB f y fs).2 g (wi g λz=>hg ?_);show(if g=f then some u else mA g)=none;rw[if_neg q];exact z
def uP {y:V}{Q:NU}(I:Inv X Y U H s)(e:H a=some (.exc C none fs fr))(c:c8 X.K C)(n:fm X.K C f)(ry:RelV y u)
  (h:∀ d s',H d=none->Inv X Y U (upd (upd H d (.own a)) a (.exc C (some d) [(f,y)] fr)) s'->Q () s'):wpAny (model X.prog X.w) A (setAttr (.ref a) f u) Q E s:=by
 obtain⟨⟨vs,ho,zz⟩,z⟩:=id (I.hok a _ e);have hfs:fs=[]:=by
  rcases z with⟨_,z⟩|⟨d,ed,_⟩
  .exact z
  .cases ed
 subst hfs;have J:W.InstAt s.heap a { cls:=.ref C,dict:=none,data:=.fields vs } C none:=⟨ho,rfl,rfl,True.intro⟩;refine W.set_plain I.bV J c.sa (sM (s:={ s with toks:=s.toks+1 }) I.bV J c n ?_);obtain⟨cd,hc,hd'⟩:=W.any_some c.hd;refine ad (am (ad (ad (wpAny_loadPart ho (ad (W.Looks.here (s:={ s with toks:=s.toks+1 }) (W.looks_clsIn I.bV hc) ?_))))));rw[hd'];have hlt:=v0 ho;have hxs:a≠s.heap.objs.size:=sn hlt;have ho1:(s.heap.push { cls:=.type "dict",data:=.dict #[] }).get? a=some { cls:=.ref C,dict:=none,data:=.fields vs }:=ut _ ho;refine ad (wpAny_alloc' ?_);refine ad (wpAny_update' ho1 ?_);refine am ?_;have hgd:((s.heap.push { cls:=.type "dict",data:=.dict #[] }).update a λo=>{ o with dict:=some s.heap.objs.size }).get? s.heap.objs.size=some { cls:=.type "dict",data:=.dict #[] }:=
  (Heap.get?_update_ne _ _ _ _ hxs.symm).trans (Heap.get?_push_at rfl rfl)
 have hga:((s.heap.push { cls:=.type "dict",data:=.dict #[] }).update a λo=>{ o with dict:=some s.heap.objs.size }).get? a=some { cls:=.ref C,dict:=some s.heap.objs.size,data:=.fields vs }:=
  Heap.get?_update_self _ ho1 rfl
 have hnd:((s.heap.push { cls:=.type "dict",data:=.dict #[] }).update a λo=>{ o with dict:=some s.heap.objs.size }).Ns s.heap.objs.size (λ_=>none):=
  ⟨_,#[],_,hgd,rfl,λe he=>absurd he (by simp),λ_=>rfl⟩
 show wpAny _ _ (storeInDict s.heap.objs.size (.str f _) f u) _ _ _;unfold storeInDict newKeyGuard;refine ad (am (ad (wpAny_nsSet1 (Heap.Ns1.of_empty hnd) λh' hn2 hs2=>?_)));obtain⟨oD,esD,epD,hoD,hdD,hcD⟩:=hn2.count (PySem.Within.cons f u PySem.Within.nil);refine ad (wpAny_lookBehind hoD (by rw[hdD];exact pastItsLine_dict (Nat.le_trans hcD (by rw[length_cons,length_nil,sizeLine_eq];omega))) ?_);have hd0:H s.heap.objs.size=none:=I.hok.fresh (sw _);refine am (h s.heap.objs.size _ hd0 ?_);have e':upd H s.heap.objs.size (.own a) a=some (.exc C none [] fr):=by rw[aj hxs];exact e
 have I1:Inv X Y U (upd H s.heap.objs.size (.own a)) { s with heap:=s.heap.push { cls:=.type "dict",data:=.dict #[] },toks:=s.toks+1 }:=
  I.laid (a:=s.heap.objs.size) (o:=.own a) (t':=s.toks+1) (λb u q=>ut _ q) (sw _) ⟨_,v4 s.heap rfl⟩
 have I2:=I1.write (x:=a) (e:=a) (o:=.exc C (some s.heap.objs.size) [] fr) (t':=s.toks+1) (h':=(s.heap.push { cls:=.type "dict",data:=.dict #[] }).update a λo=>{ o with dict:=some s.heap.objs.size })
  (by rw[e'];exact True.intro) (.inl rfl) (λb q hb z=>(Heap.get?_update_ne _ _ _ _ hb).trans z) ⟨_,hga⟩
  ⟨⟨vs,hga,zz⟩,.inr ⟨_,rfl,by rw[aj hxs.symm,aE],Nat.zero_le _,hxs.symm,_,Heap.Ns1.of_empty hnd,λ_=>True.intro,λy hy=>absurd rfl hy⟩⟩
 have ga':h'.get? a=some { cls:=.ref C,dict:=some s.heap.objs.size,data:=.fields vs }:=(hs2.2 a hxs).trans hga;have I3:=I2.write (x:=a) (e:=s.heap.objs.size) (o:=.exc C (some s.heap.objs.size) [(f,y)] fr) (t':=s.toks+1+1) (h':=h') (by rw[aE];exact True.intro) (.inr (by rw[aj hxs.symm,aE]))
  (λb q hb z=>(hs2.2 b hb).trans z) ⟨oD,hoD⟩
  ⟨⟨vs,ga',zz⟩,.inr ⟨_,rfl,by rw[aj hxs.symm,aj hxs.symm,aE],by show 1<=1000;decide,hxs.symm,_,hn2,λg=>?_,λg hg=>?_⟩⟩
 .rw[DH]at I3;exact I3
 .show dq (List.lookup g [(f,y)]) (if g=f then some u else none)
  by_cases q:g=f
  .have hb:(g ==f)=true:=beq_iff_eq.mpr q;simp only[List.lookup,hb,if_pos q];exact ry
  .have hb:(g ==f)=false:=beq_eq_false_iff_ne.mpr q;simp only[List.lookup,hb,if_neg q];exact True.intro
 .by_cases q:g=f
  .rw[q];simp
  .exact absurd (show(if g=f then some u else none)=none by rw[if_neg q]) hg
end
section
variable {X:Cx}{Y:NW}{U:St}{H:Hp}{s:Shared}{a C:Addr}{dx:Option Addr}{fs:List (Str×V)}{f:Str}{v:V}{A:Around}{E:NV}{fr:Bool}
def Inv.fields {vs':Array Value}{h':Heap}{t':Nat}(I:Inv X Y U H s)(e:H a=some (.exc C dx fs fr))(hs:vs'.size=6)(h1:fr=true->vs'[1]? =some Value.none)
  (ha:h'.get? a=some { cls:=.ref C,dict:=dx,data:=.fields vs' }) (k:∀ b u,b≠a->s.heap.get? b=some u->h'.get? b=some u):Inv X Y U H { s with heap:=h',toks:=t' }:=by
 have I2:=I.write (x:=a) (e:=a) (o:=.exc C dx fs fr) (t':=t') (h':=h') (by rw[e];exact True.intro) (.inl rfl) k ⟨_,ha⟩ ?_
 .have:upd H a (.exc C dx fs fr)=H:=by
   funext b
   by_cases hb:b=a
   .rw[hb,aE,e]
   .rw[aj hb]
  rw[this]at I2;exact I2
 .obtain⟨_,z⟩:=id (I.hok a _ e);refine⟨⟨vs',ha,hs,h1⟩,?_⟩;rcases z with z|⟨d,ed,d1,z1,ne,mA,⟨od,es,ep,e2,c⟩,r⟩
  .exact .inl z
  .exact .inr ⟨d,ed,by rw[aj ne];exact d1,z1,ne,mA,⟨od,es,ep,k _ _ ne e2,c⟩,r⟩
def lE {R:Result->Shared->Prop}(I:Inv X Y U H s)(e:H a=some (.exc C dx fs fr))(c:c8 X.K C)
  (h:∀ s',Inv X Y U H s'->R (.ok (.ret .none)) s'):codeAny (model X.prog X.w) A (.call (.builtin "ValueError.__init__") ⟨[.ref a,u],[]⟩) R s:=by
 have F:=PySem.F.excCall_ValueError;obtain⟨⟨vs,ho,hsz,h1⟩,z⟩:=id (I.hok a _ e);have L4:Looks (model X.prog X.w) s.heap (isInstance (.ref a) (.type "ValueError")) true:=(show Looks (model X.prog X.w) s.heap (typeOf (.ref a)) (.ref C) from(Looks.ld ho).andThen .now).andThen (looks_mroIn I.bV (c.sub (by decide+kernel)));refine codeAny_call_builtin F.init.plain F.initEntry ?_;simp only[checkBuiltinCall,F.initKind,F.initSplit,F.initRow];refine ad (L4.here ?_);simp only[Bool.not_true,Bool.false_eq_true,if_false];have hshort:("ValueError" != "*")=true:=by decide
 have h0:∃ a0,vs[0]? =some a0:=⟨_,Array.getElem?_eq_getElem nofun⟩;obtain⟨a0,h0⟩:=h0;obtain⟨hp,g,d,t,os⟩:=s;unfold Bind.checkArgs;have hn:Looks (model X.prog X.w) hp (typeOf (.ref a)) (.ref C):=(Looks.ld ho).andThen .now;obtain⟨cd,rs,hcl,_⟩:=c.mro;obtain⟨oc,od,sl,hC⟩:∃ oc od sl,hp.get? C=some ⟨oc,od,.cls cd,sl⟩:=by
  unfold W.clsIn at hcl
  split at hcl
  .rename_i ho';cases hcl;exact⟨_,_,_,I.bV _ _ ho'⟩
  .cases hcl
 repeat(first|with_reducible refine wpAny_load hC ?_|wp_step)
 rw[h0];have ho1:(hp.push { cls:=.type "tuple",data:=.seq #[u] }).get? a=some { cls:=.ref C,dict:=dx,data:=.fields vs }:=ut _ ho;have hq:=Heap.get?_update_self (Obj.mapFields (·.setIfInBounds 0 (.ref hp.objs.size))) ho1 (Obj.isFreed_of_fields (Obj.data_mapFields rfl _));have fin:R (.ok (.ret Value.none)) ⟨(hp.push { cls:=.type "tuple",data:=.seq #[u] }).update a (Obj.mapFields (·.setIfInBounds 0 (.ref hp.objs.size))),g,d,t,os⟩:=by
  refine h _ (I.fields (vs':=vs.setIfInBounds 0 (.ref hp.objs.size)) (t':=t) e (by simpa using hsz) (λz=>?_) hq λb q hb z'=>?_)
  .rw[Array.getElem?_setIfInBounds_ne (by decide)];exact h1 z
  .exact(Heap.get?_update_ne _ _ _ _ hb).trans (ut _ z')
 refine am (ad (wpAny_setField ho1 rfl nofun ?_));cases a0<;>first|exact am (am fin)|exact wpAny_letGo (am fin)
def vj (I:Inv X Y U H s)(e:H a=some (.exc C dx fs fr))(c:c8 X.K C)
  (h:∀ s',Inv X Y U H s'->Q .none s'):wpAny (model X.prog X.w) A (call (.builtin "ValueError.__init__") [.ref a,u]) Q E s:=wpAny_call (lE I e c h)
end
abbrev cu (K:W.Frag)(C:Addr):Bool:=match K.lookup C with
 |some ⟨_,_,.cls cd,sl⟩=>!cd.abstract&& !cd.hasDel&&(sl.toList[4]?).join ==some (.builtin "ValueError.__new__")&&d8 cd.mro&&cd.mro.contains (.ref C)&&
   W.specialIn K (.ref C) "__call__" ==some (some (.builtin "type.__call__"))&&W.instIn K (.ref C) (.type "type") ==some true
 |_=>false
structure zv (M:Model) (h:Heap) (C:Addr):Prop where
 obj:∃ oc od cd sl,h.get? C=some ⟨oc,od,.cls cd,sl⟩/\cd.abstract=false/\cd.hasDel=false/\cd.mro.isEmpty=false
 made:W.Looks M h (Bind.madeBy (.ref C)) (some "ValueError.__new__")
 base:W.Looks M h (Bind.staticBase (.ref C)) (.ref C)
 self:W.Looks M h (isSubtype (.ref C) (.ref C)) true
 top:W.Looks M h (isSubtype (.ref C) (.type "ValueError")) true
 no1:W.Looks M h (isSubtype (.ref C) (.type "AttributeError")) false
 no2:W.Looks M h (isSubtype (.ref C) (.type "NameError")) false
 call:W.Looks M h (specialOf (.ref C) "__call__") (some (.builtin "type.__call__"))
 typ:W.Looks M h (isInstance (.ref C) (.type "type")) true
def vA {n:String}(h:cp.contains (.type n)=false):(rs.map Value.ref++cp).contains (.type n)=false:=by
 induction rs with
 |nil=>exact h
 |cons a r ih=>rw[map_cons,cons_append,List.contains_cons,ih];rfl
def nM {K:W.Frag}{M:Model}{h:Heap}(X:K.In h){C:Addr}(e:cu K C=true):zv M h C:=by
 unfold cu at e
 split at e
 .rename_i oc od cd sl ho;simp only[ol,Bool.not_eq_true',beq_iff_eq]at e;obtain⟨⟨⟨⟨⟨⟨e1,e2⟩,e3⟩,e4⟩,e5⟩,e7⟩,e8⟩:=e;obtain⟨rs,em⟩:=dW e4;have hc:W.clsIn K C=some cd:=by unfold W.clsIn;rw[ho]
  have hm:Looks M h (mroOf (.ref C)) cd.mro:=(looks_clsIn X hc).andThen .now;have ne:cd.mro.isEmpty=false:=by rw[em];exact wa
  obtain⟨c,l,hl⟩:∃ c l,cd.mro=c::l:=by
   cases q:cd.mro with
   |nil=>rw[q]at ne;cases ne
   |cons c l=>exact⟨c,l,rfl⟩
  have made:Looks M h (Bind.madeBy (.ref C)) (some "ValueError.__new__"):=by
   intro A Q E s k q;unfold Bind.madeBy;refine ad (hm A _ E s k ?_);rw[hl,forIn_cons];refine ad (ad (ad (ad (wpAny_loadPart (k _ _ (X _ _ ho)) (am ?_)))));dsimp only;rw[<-Array.getElem?_toList,e3];exact am (am (am q))
  have mro:∀ {v b},cd.mro.contains v=b->W.mroIn K C v=some b:=λ{v b} q=>by
   unfold W.mroIn;rw[hc,Option.bind_some,if_neg (by rw[ne];decide),q]
  refine⟨⟨oc,od,cd,sl,X _ _ ho,e1,e2,ne⟩,made,?_,looks_mroIn X (mro e5),looks_mroIn X (mro (by rw[em];exact qS (by decide+kernel))),looks_mroIn X (mro (by rw[em];exact vA (by decide+kernel))),looks_mroIn X (mro (by rw[em];exact vA (by decide+kernel))),looks_specialIn X e7,looks_instIn X e8⟩;intro A Q E s k q;unfold Bind.staticBase;refine ad (hm A _ E s k ?_);rw[hl,forIn_cons];exact ad (ad (ad (made A _ E s k (am (am (am q))))))
 .cases e
variable {rest:List Value}
section
variable {prog:Program}{w:World}{A:Around}{K:W.Frag}{C:Addr}{R:Result->Shared->Prop}{h:Heap}{g:Array GenState}{d:Drawn}{t:Nat}{os:OsState}
def E8 (Y:zv (model prog w) h C)(hz:rest.length<=bv)
  (hq:R (.ok (.ret (.ref (h.objs.size+1)))) ⟨(h.push { cls:=.type "tuple",data:=.seq rest.toArray }).push { cls:=.ref C,data:=.fields #[.ref h.objs.size,.none,.none,.none,.bool false,.none] },g,d,t,os⟩):
  codeAny (model prog w) A (.call (.builtin "ValueError.__new__") ⟨.ref C::rest,[]⟩) R ⟨h,g,d,t,os⟩:=by
 obtain⟨⟨oc,od,cd,sl,hC,e1,e2,e4⟩,made,base,self,top,no1,no2,call,typ⟩:=Y;have F:=PySem.F.excBase_ValueError;have here:Looks (model prog w) h (Bind.madeHere "BaseException.__new__" (.ref C)) ():=base.andThen (made.andThen (Looks.of_pure (by simp only[Option.map_some,F.canon,bne_self_eq_false,Bool.false_eq_true,if_false])));refine codeAny_call_builtin_code (Code.quiet_builtin _ F.quiet) ?_;simp only[checkBuiltinCall,F.newKind,F.newSplit,F.newRow]
 repeat(first|simp only[bne_self_eq_false,Bool.false_eq_true,if_false]|lk)
 refine codeAny_builtinAt F.entry ?_;unfold Builtin.«BaseException.__new__»;refine PySem.wpAt_bind ?_;show PySem.wpAt _ _ _ (stack >>= _) _ _ _;refine PySem.wpAt_bind (PySem.wpAt_stack λp below=>PySem.wpAt_of_wpAny ?_);have hends:=F.ends
 wp_walk
 refine PySem.wpAt_of_wpAny ?_;rw[F.owner]
 repeat(first|simp only[Bool.not_true,Bool.false_eq_true,if_false]|lk)
 rw[if_neg (show ¬ (rest.toArray.size>bv) by rw[ii];omega)];unfold newObjAsIs;refine ad (wpAny_alloc (am (ad ?_)));show wpAny _ _ (newObjAsIs _ _ _) _ _ _;unfold newObjAsIs classHasDel;refine ad (wpAny_alloc (ad (ad (wpAny_load (ut _ (ut _ hC)) (am ?_)))));rw[e2];refine am (am ?_);show R _ _;rw[Heap.size_push];exact hq
def Ga {fI:Addr}(X:K.In h)(hz:rest.length<=bv)(hm:cu K C=true)(hi:W.findIn K (.ref C) "__init__"=some (some (.ref fI))) (hf:W.typeIn K (.ref fI)=some (.type "function"))
  (hq:codeAny (model prog w) (A.under (.builtin "type.__call__" ⟨.ref C::rest,[]⟩)) (.call (.ref fI) ⟨.ref (h.objs.size+1)::rest,[]⟩) (InitBack (h.objs.size+1) R)
   ⟨(h.push { cls:=.type "tuple",data:=.seq rest.toArray }).push { cls:=.ref C,data:=.fields #[.ref h.objs.size,.none,.none,.none,.bool false,.none] },g,d,t,os⟩):
  codeAny (model prog w) A (.call (.ref C) ⟨rest,[]⟩) R ⟨h,g,d,t,os⟩:=by
 have Y:=nM (M:=model prog w) X hm;have Y':=Y;obtain⟨⟨oc,od,cd,sl,hC,e1,e2,e4⟩,made,base,self,top,no1,no2,call,typ⟩:=Y;refine codeAny_of_tree ?_;show wpAny _ _ (callAny (.ref C) _) _ _ _;refine nd_load hC ?_;show wpAny _ _ (callAny.viaDunder (.ref C) _) _ _ _;unfold callAny.viaDunder;refine ad (call.at ?_);dsimp only;rw[tc_bind];refine ad (am (ad (am ?_)));refine am (a:=Fin.again (.call (.builtin "type.__call__") ⟨.ref C::rest,[]⟩)) (And.intro rfl ?_);refine codeAny_call_builtin_at (Code.quiet_builtin _ (by decide+kernel)) entry_typeCall (check_slot tc_kind tc_split typ (tc_args _ _ _) ?_);unfold Builtin.«type.__call__»;have hmr:Looks (model prog w) h (mroOf (.ref C)) cd.mro:=((Looks.ld (part:=none) hC).andThen .now).andThen .now
 repeat(first|simp only[e4,Bool.false_eq_true,if_false]|with_reducible refine wpAny_call ?_|lk)
 refine E8 Y' hz ?_;have k:∀ b o,h.get? b=some o->((h.push { cls:=.type "tuple",data:=.seq rest.toArray }).push { cls:=.ref C,data:=.fields #[.ref h.objs.size,.none,.none,.none,.bool false,.none] }).get? b=some o:=λb o e=>ut _ (ut _ e)
 have hx:((h.push { cls:=.type "tuple",data:=.seq rest.toArray }).push { cls:=.ref C,data:=.fields #[.ref h.objs.size,.none,.none,.none,.bool false,.none] }).get? (h.objs.size+1)=some { cls:=.ref C,data:=.fields #[.ref h.objs.size,.none,.none,.none,.bool false,.none] }:=by heap_get
 have t1:Looks (model prog w) ((h.push { cls:=.type "tuple",data:=.seq rest.toArray }).push { cls:=.ref C,data:=.fields #[.ref h.objs.size,.none,.none,.none,.bool false,.none] }) (typeOf (.ref (h.objs.size+1))) (.ref C):=(Looks.ld hx).andThen .now;have s1:=self.keeps k;have i1:=(looks_findIn (M:=model prog w) X hi).keeps k;have b1:=(bind_fn (M:=model prog w) X (.ref (h.objs.size+1)) hf).keeps k;unfold isInstance callSpecial? specialOf
 repeat(first|with_reducible refine wpAny_call ?_|lk)
 refine codeAny_mono hq λr s' z=>?_
 rcases r with e|(v|_|_|_)<;>first|exact z|exact z.elim|skip
 obtain⟨rfl,z⟩:=z;exact am (am z)
def CY (X:K.In h)(hz:rest.length<=bv)(hm:cu K C=true)(hi:W.findIn K (.ref C) "__init__"=some (some (.builtin "ValueError.__init__")))
  (hq:codeAny (model prog w) (A.under (.builtin "type.__call__" ⟨.ref C::rest,[]⟩)) (.call (.builtin "ValueError.__init__") ⟨.ref (h.objs.size+1)::rest,[]⟩) (InitBack (h.objs.size+1) R)
   ⟨(h.push { cls:=.type "tuple",data:=.seq rest.toArray }).push { cls:=.ref C,data:=.fields #[.ref h.objs.size,.none,.none,.none,.bool false,.none] },g,d,t,os⟩):
  codeAny (model prog w) A (.call (.ref C) ⟨rest,[]⟩) R ⟨h,g,d,t,os⟩:=by
 have Y:=nM (M:=model prog w) X hm;have Y':=Y;obtain⟨⟨oc,od,cd,sl,hC,e1,e2,e4⟩,made,base,self,top,no1,no2,call,typ⟩:=Y;refine codeAny_of_tree ?_;show wpAny _ _ (callAny (.ref C) _) _ _ _;refine nd_load hC ?_;show wpAny _ _ (callAny.viaDunder (.ref C) _) _ _ _;unfold callAny.viaDunder;refine ad (call.at ?_);dsimp only;rw[tc_bind];refine ad (am (ad (am ?_)));refine am (a:=Fin.again (.call (.builtin "type.__call__") ⟨.ref C::rest,[]⟩)) (And.intro rfl ?_);refine codeAny_call_builtin_at (Code.quiet_builtin _ (by decide+kernel)) entry_typeCall (check_slot tc_kind tc_split typ (tc_args _ _ _) ?_);unfold Builtin.«type.__call__»;have hmr:Looks (model prog w) h (mroOf (.ref C)) cd.mro:=((Looks.ld (part:=none) hC).andThen .now).andThen .now
 repeat(first|simp only[e4,Bool.false_eq_true,if_false]|with_reducible refine wpAny_call ?_|lk)
 refine E8 Y' hz ?_;have k:∀ b o,h.get? b=some o->((h.push { cls:=.type "tuple",data:=.seq rest.toArray }).push { cls:=.ref C,data:=.fields #[.ref h.objs.size,.none,.none,.none,.bool false,.none] }).get? b=some o:=λb o e=>ut _ (ut _ e)
 have hx:((h.push { cls:=.type "tuple",data:=.seq rest.toArray }).push { cls:=.ref C,data:=.fields #[.ref h.objs.size,.none,.none,.none,.bool false,.none] }).get? (h.objs.size+1)=some { cls:=.ref C,data:=.fields #[.ref h.objs.size,.none,.none,.none,.bool false,.none] }:=by heap_get
 have t1:Looks (model prog w) ((h.push { cls:=.type "tuple",data:=.seq rest.toArray }).push { cls:=.ref C,data:=.fields #[.ref h.objs.size,.none,.none,.none,.bool false,.none] }) (typeOf (.ref (h.objs.size+1))) (.ref C):=(Looks.ld hx).andThen .now;have s1:=self.keeps k;have i1:=(looks_findIn (M:=model prog w) X hi).keeps k;have b1:Looks (model prog w) ((h.push { cls:=.type "tuple",data:=.seq rest.toArray }).push { cls:=.ref C,data:=.fields #[.ref h.objs.size,.none,.none,.none,.bool false,.none] }) (bindSpecial (.builtin "ValueError.__init__") (.ref (h.objs.size+1))) (.builtin "ValueError.__init__",[.ref (h.objs.size+1)]):=Looks.of_pure (PySem.F.excCall_ValueError.init.bind _);unfold isInstance callSpecial? specialOf
 repeat(first|with_reducible refine wpAny_call ?_|lk)
 refine codeAny_mono hq λr s' z=>?_
 rcases r with e|(v|_|_|_)<;>first|exact z|exact z.elim|skip
 obtain⟨rfl,z⟩:=z;exact am (am z)
end
end L2
namespace L2
open PySem PySem.Spec PySem.W PyProof.Rows
abbrev bP (e:Addr)(h h':Heap):Prop:=∀ oe vs,h.get? e=some oe->oe.data=.fields vs->∃ vs',h'.get? e=some { oe with data:=.fields vs' }/\vs'.size=vs.size
abbrev Gv (as:List Addr)(h h':Heap):Prop:=∀ b o,b ∉ as->h.get? b=some o->h'.get? b=some o
abbrev BZ (h:Heap)(e T:Addr)(fl:Value):Prop:=∃ oe vs oT ts,h.get? e=some oe/\oe.data=.fields vs/\vs[1]? =some (.ref T)/\T≠e/\h.get? T=some oT/\oT.data=.fields ts/\ts[3]? =some fl
def bP.trans {e:Addr}{h h1 h2:Heap}(a:bP e h h1)(b:bP e h1 h2):bP e h h2:=λoe vs x y=>by
 obtain⟨vs1,x1,z1⟩:=a oe vs x y;obtain⟨vs2,x2,z2⟩:=b _ vs1 x1 rfl;exact⟨vs2,x2,z2.trans z1⟩
def bP.same {e:Addr}{h h':Heap}(k:h'.get? e=h.get? e):bP e h h':=λoe vs x y=>⟨vs,by rw[k,x,<-y],rfl⟩
variable {Q:NU}
section
variable {M:Model}{A:Around}{E:NV}{s:Shared}{base:Heap}{env:Env}{outer:List Env}{L e:Addr}
def pe {oe:Obj}{vs:Array Value}{head:Value}{hadNext:Bool}(hfr:A.frames=some (env::outer))(hl:s.heap.FunFrames base (env::outer))(hf:env.frame=some L)
  (he:s.heap.get? e=some oe) (hd:oe.data=.fields vs) (hsz:1<vs.size)
  (q:∀ h' T,s.heap.objs.size<=T->BZ h' e T (rawInt L)->bP e s.heap h'->(∀ b o,b≠e->s.heap.get? b=some o->∃ sl,h'.get? b=some { o with slots:=sl })->Gv (e::qh (env::outer)) s.heap h'->Q () { s with heap:=h' }):
  wpAny M A (do let a <-frameOf env;let pl <-entryPlaceOf L hadNext;let b <-EntryCells.newEntry head a .none (rawInt L) .none pl;setField (.ref e) 1 b) Q E s:=by
 have hne:e ∉ qh (env::outer):=λhm=>by
  obtain⟨_,o,ho,hnf⟩:=hl.mem hm;rw[he]at ho;cases ho;exact hnf vs hd
 refine ad (wpAny_frameOf_fun hfr hl hf λh1 s1=>ad (wpAny_entryPlaceOf λpl hpl=>?_));unfold EntryCells.newEntry newFields;refine ad (wpAny_newObj_type ?_ (hpl.sizeOk5 _ _ _ _ _));have e1:h1.get? e=some oe:=(s1.2.1 e hne).trans he;have e2:=ut (h:=h1) { cls:=.type "traceback",dict:=none,data:=.fields ([head,.ref L,.none,rawInt L,.none]++(if pl.isEmpty then tz 6 Value.none else pl)).toArray } e1;have hTe:h1.objs.size≠e:=Nat.ne_of_gt (v0 e1);have d3:=Obj.data_mapFields hd (·.setIfInBounds 1 (Value.ref h1.objs.size));have e3:=Heap.get?_update_self (Obj.mapFields (·.setIfInBounds 1 (Value.ref h1.objs.size))) e2 (Obj.isFreed_of_fields d3);have t3:=(Heap.get?_update_other (h1.push { cls:=.type "traceback",dict:=none,data:=.fields ([head,.ref L,.none,rawInt L,.none]++(if pl.isEmpty then tz 6 Value.none else pl)).toArray })
  (Obj.mapFields (·.setIfInBounds 1 (Value.ref h1.objs.size))) (Ne.symm hTe)).trans (v4 h1 rfl)
 have keep:∀ b o,b≠e->h1.get? b=some o->((h1.push { cls:=.type "traceback",dict:=none,data:=.fields ([head,.ref L,.none,rawInt L,.none]++(if pl.isEmpty then tz 6 Value.none else pl)).toArray }).update e (Obj.mapFields (·.setIfInBounds 1 (Value.ref h1.objs.size)))).get? b=some o:=
  λb o hb hq=>(Heap.get?_update_other _ _ (Ne.symm hb)).trans (ut _ hq)
 refine wpAny_setField e2 hd hsz (q _ h1.objs.size ?_ ?_ ?_ (λb o hb ho=>?_) λb o hb ho=>?_)
 .rw[s1.1];exact sw _
 .refine⟨_,_,_,_,e3,d3,by simp[hsz],hTe,t3,rfl,?_⟩
  first|(simp;done)|(rcases hpl with rfl|⟨_,_,_,_,_,_,_,rfl⟩<;>simp)
 .intro oe' vs' x y;rw[he]at x;cases x;rw[hd]at y;cases y;refine⟨vs.setIfInBounds 1 (.ref h1.objs.size),?_,by simp⟩;rw[e3];obtain⟨c0,d0,dt,sl0⟩:=oe;cases hd
  rfl
 .obtain⟨sl,z⟩:=s1.2.2 b o ho;exact⟨sl,keep b _ hb z⟩
 .exact keep b o (λz=>hb (by rw[z];exact mo)) ((s1.2.1 b λz=>hb (dL _ z)).trans ho)
abbrev Gz (n₀:Nat)(ps:NW)(H:Hp)(h:Heap)(e:Addr):Prop:=(∃ oe vs,h.get? e=some oe/\oe.data=.fields vs/\vs[1]? =some Value.none)\/∃ T,n₀<=T/\H T=none/\(∀ p ∈ ps,p.1≠T)/\BZ h e T .none
def CS {n₀:Nat}{ps:NW}{H:Hp}(hfr:A.frames=some (env::outer))(hl:s.heap.FunFrames base (env::outer))(hf:env.frame=some L)(sf:Gz n₀ ps H s.heap e)(h0:n₀<=s.heap.objs.size)(hps:∀ p ∈ ps,p.1<s.heap.objs.size)
  (q:∀ h' T T0,s.heap.objs.size<=T->n₀<=T0->(H T0=none\/s.heap.objs.size<=T0)->(∀ p ∈ ps,p.1≠T0)->(∀ o,s.heap.get? T0=some o->∃ ts,o.data=.fields ts)->BZ h' e T (rawInt L)->bP e s.heap h'->h'.FunFrames base (env::outer)->(∀ b o,b≠e->b≠T0->s.heap.get? b=some o->∃ sl,h'.get? b=some { o with slots:=sl })->Gv (e::T0::qh (env::outer)) s.heap h'->(∀ b o,s.heap.get? b=some o->∃ o',h'.get? b=some o')->Q () { s with heap:=h' }):
  wpAny M A (noteFrame (.ref e) env) Q E s:=by
 have fun_of:∀ {h':Heap}{as:List Addr},(∀ b ∈ as,∀ o,s.heap.get? b=some o->∃ vs,o.data=.fields vs)->(∀ b o,b ∉ as->s.heap.get? b=some o->∃ sl,h'.get? b=some { o with slots:=sl })->h'.FunFrames base (env::outer):=
  λ{h' as} ha k=>hl.of_keeps λb o ho hnf=>by
   by_cases hb:b ∈ as
   .obtain⟨vs,z⟩:=ha b hb o ho;exact absurd z (hnf vs)
   .obtain⟨sl,z⟩:=k b o hb ho;exact⟨_,z,rfl⟩
 unfold noteFrame;simp only[hf];rcases sf with⟨oe,vs,he,hd,h1⟩|⟨T0,hT0,hH0,hp0,oe,vs,oT,ts,he,hd,h1,hTe,hT,hdT,h3⟩
 .skip
  refine ad (ap he hd h1 ?_);rw[if_neg (by decide)];refine pe hfr hl hf he hd (Array.getElem?_eq_some_iff.mp h1).1 λh' T hT st fo sl sy=>?_
  refine q h' T s.heap.objs.size hT h0 (.inr (sw _)) (λp hp=>sn (hps p hp)) (λo z=>absurd (v0 z) (Nat.lt_irrefl _)) st fo ?_ (λb o hb _ ho=>sl b o hb ho) (λb o hb ho=>sy b o (λz=>hb ?_) ho) λb o ho=>?_
  .refine fun_of (as:=[e]) (λb hb o ho=>?_) λb o hb ho=>sl b o (by simpa using hb) ho
   obtain rfl:b=e:=by simpa using hb
   rw[he]at ho;cases ho;exact⟨vs,hd⟩
  .rcases nw.mp z with z|z
   .exact nw.mpr (.inl z)
   .exact dL _ (dL _ z)
  .by_cases hb:b=e
   .subst hb;rw[he]at ho;cases ho;obtain⟨vs',z,_⟩:=fo _ _ he hd;exact⟨_,z⟩
   .obtain⟨sl',z⟩:=sl b o hb ho;exact⟨_,z⟩
 .refine ad (ap he hd h1 ?_);rw[if_pos (show(Value.ref T0 != Value.none)=true from by simp)];refine ad (ap hT hdT h3 ?_);rw[if_neg (show ¬ ((Value.none ==rawInt L)=true) from by simp[rawInt])];refine ad (wpAny_setField hT hdT (Array.getElem?_eq_some_iff.mp h3).1 ?_);have other:∀ b,b≠T0->(s.heap.update T0 (Obj.mapFields (·.setIfInBounds 3 Value.none))).get? b=s.heap.get? b:=λb hb=>Heap.get?_update_other _ _ (Ne.symm hb)
  have self':=Heap.get?_update_self (Obj.mapFields (·.setIfInBounds 3 Value.none)) hT (Obj.isFreed_of_fields (Obj.data_mapFields hdT _));have rec':∀ b o,s.heap.get? b=some o->(∀ vs,o.data≠.fields vs)->b≠T0:=λb o hb hnf z=>by
   rw[z,hT]at hb;cases hb;exact hnf ts hdT
  refine pe (base:=base) hfr (hl.of_keeps λb o hb hnf=>⟨o,(other b (rec' b o hb hnf)).trans hb,rfl⟩) hf ((other e (Ne.symm hTe)).trans he) hd (Array.getElem?_eq_some_iff.mp h1).1 λh' T hTn st fo sl sy=>?_
  have hTn':s.heap.objs.size<=T:=by
   have z:(s.heap.update T0 (Obj.mapFields (·.setIfInBounds 3 Value.none))).objs.size<=T:=hTn
   rwa [Heap.size_after_update]at z
  refine q h' T T0 hTn' hT0 (.inl hH0) hp0 (λo z=>by rw[hT]at z;cases z;exact⟨ts,hdT⟩) st (bP.trans (bP.same (other e (Ne.symm hTe))) fo) ?_ (λb o hb hb0 ho=>sl b o hb ((other b hb0).trans ho)) (λb o hb ho=>?_) λb o ho=>?_
  .refine fun_of (as:=[e,T0]) (λb hb o ho=>?_) λb o hb ho=>sl b o (λz=>hb (by simp[z])) ((other b λz=>hb (by simp[z])).trans ho)
   rcases nw.mp hb with hb|hb
   .subst hb;rw[he]at ho;cases ho;exact⟨vs,hd⟩
   .obtain rfl:b=T0:=by simpa using hb
    rw[hT]at ho;cases ho;exact⟨ts,hdT⟩
  .have n1:b≠e:=λz=>hb (by simp[z])
   have n2:b≠T0:=λz=>hb (by simp[z])
   refine sy b o (λz=>hb ?_) ((other b n2).trans ho);rcases nw.mp z with z|z
   .exact nw.mpr (.inl z)
   .exact dL _ (dL _ z)
  .by_cases hb:b=e
   .subst hb;obtain⟨vs',z,_⟩:=fo _ _ ((other b (Ne.symm hTe)).trans he) hd;exact⟨_,z⟩
   .by_cases hb0:b=T0
    .subst hb0;obtain⟨sl',z⟩:=sl b _ hb self';exact⟨_,z⟩
    .obtain⟨sl',z⟩:=sl b o hb ((other b hb0).trans ho);exact⟨_,z⟩
def vC {T:Addr}{fl:Value}(st:BZ s.heap e T fl)
  (q:∀ h',BZ h' e T .none->(∀ b,b≠T->h'.get? b=s.heap.get? b)->(∃ o,s.heap.get? T=some o)->(∃ o,h'.get? T=some o)->(∃ oT ts,h'.get? T=some oT/\oT.data=.fields ts)->Q () { s with heap:=h' }):wpAny M A (setFlight (.ref e) none) Q E s:=by
 obtain⟨oe,vs,oT,ts,he,hd,h1,hTe,hT,hdT,h3⟩:=st;have hz:3<ts.size:=(Array.getElem?_eq_some_iff.mp h3).1;have other:∀ b,b≠T->(s.heap.update T (Obj.mapFields (·.setIfInBounds 3 ((none:Option Addr).elim Value.none λf=>rawInt f)))).get? b=s.heap.get? b:=λb hb=>Heap.get?_update_other _ _ (Ne.symm hb)
 have self':=Heap.get?_update_self (Obj.mapFields (·.setIfInBounds 3 ((none:Option Addr).elim Value.none λf=>rawInt f))) hT (Obj.isFreed_of_fields (Obj.data_mapFields hdT _));unfold setFlight;refine ad (ap he hd h1 ?_);rw[if_pos (show(Value.ref T != Value.none)=true from by simp)];refine wpAny_setField hT hdT hz (q _ ⟨oe,vs,_,_,(other e (Ne.symm hTe)).trans he,hd,h1,hTe,self',Obj.data_mapFields hdT _,by simp[hz]⟩ other ⟨_,hT⟩ ⟨_,self'⟩ ⟨_,_,self',Obj.data_mapFields hdT _⟩)
end
variable {A:Around}
section
variable {X:Cx}{U:St}{H:Hp}{s:Shared}{e C:Addr}{dx:Option Addr}{fs:List (Str×V)}{h':Heap}
def Inv.zt {Y:NW}(I:Inv X Y U H s):Inv X [] U H s:=I.pF λ_ z=>absurd z (by simp)
def Inv.noted {T0:Addr}{as:List Addr}(I:Inv X [] U H s)(hpn:∀ p ∈ X.pn,p.1≠T0) (he:H e=some (.exc C dx fs false)) (has:as=qh X.stack)
  (hT:X.s₀.heap.objs.size<=T0) (hT0:H T0=none\/s.heap.objs.size<=T0) (hTd:∀ o,s.heap.get? T0=some o->∃ ts,o.data=.fields ts)
  (fo:bP e s.heap h') (sl:∀ b o,b≠e->b≠T0->s.heap.get? b=some o->∃ sl,h'.get? b=some { o with slots:=sl }) (sy:Gv (e::T0::as) s.heap h') (th:∀ b o,s.heap.get? b=some o->∃ o',h'.get? b=some o'):
  Inv X [] U H { s with heap:=h' }:=by
 subst has;obtain⟨⟨vs,ho,hsz,_⟩,z⟩:=id (I.hok e _ he);have hH0:H T0=none:=by
  rcases hT0 with z|z
  .exact z
  .exact I.hok.fresh z
 have nT:∀ {b:Addr}{o:Obj},s.heap.get? b=some o->(∀ vs,o.data≠.fields vs)->b≠T0:=λ{b o} hb hn z=>by
  subst z;obtain⟨ts,q⟩:=hTd _ hb;exact hn ts q
 have kH:∀ b o,H b=none->b≠T0->b ∉ qh X.stack->s.heap.get? b=some o->h'.get? b=some o:=λb o hb h0 hf hq=>sy b o (λm=>by
  rcases nw.mp m with m|m
  .rw[m,he]at hb;cases hb
  .rcases nw.mp m with m|m
   .exact h0 m
   .exact hf m) hq
 have EL:∀ a u,H a=some u->a≠e->∀ o,s.heap.get? a=some o->h'.get? a=some o:=λa u ha ne o hq=>sy a o (λm=>by
  rcases nw.mp m with m|m
  .exact ne m
  .rcases nw.mp m with m|m
   .rw[m,hH0]at ha;cases ha
   .rw[I.qz a m]at ha;cases ha) hq
 refine I.step (g':=s.gens) (t':=s.toks) (d':=s.drawn) (ch:=[T0]) (h':=h') (λb hb=>?_) (λb o hL hfs hch hq hn=>?_) (λb o hL hfs hch hq hn=>?_) (λb o _ _ hn=>hn) (λb o _ hq=>th b o hq) (λ_ _ q=>q) (λ_ _ _ q=>q) (λb ps q=>⟨#[],by rw[q];simp⟩) (λm hm=>?_) (λa u ha=>?_) I.bare
 .obtain rfl:b=T0:=by simpa using hb
  refine⟨.inr hT,?_,λx c hc z=>?_,λp hp=>hpn p (by simpa using hp)⟩
  .obtain⟨m,⟨o,es,ep,ho',hd,_⟩,_⟩:=I.loc;intro z;exact nT ho' (λvs q=>by rw[hd]at q;cases q) z.symm
  .obtain⟨v,o,ho',hd⟩:=I.cell x c hc;exact nT ho' (λvs q=>by rw[hd]at q;cases q) z
 .refine kH b o hn (by simpa using hch) (λm=>?_) hq;rcases nw.mp (I.jy b m) with z|z
  .exact hL z
  .exact hfs z
 .exact sl b o (λz=>by rw[z,he]at hn;cases hn) (by simpa using hch) hq
 .obtain⟨o,es,ep,ho',hd,r⟩:=hm;have n1:X.env.locals≠e:=λz=>by have:=I.free;rw[z,he]at this;cases this
  obtain⟨sl',q⟩:=sl _ o n1 (nT ho' λvs q=>by rw[hd]at q;cases q) ho';exact⟨_,es,ep,q,hd,r⟩
 .by_cases hae:a=e
  .subst hae;rw[he]at ha;cases ha;obtain⟨vs',q,hz⟩:=fo _ vs ho rfl;refine⟨⟨vs',q,hz.trans hsz,λy=>by cases y⟩,?_⟩;rcases z with z|⟨d,ed,d1,z1,ne,mA,⟨od,es,ep,e2,c⟩,r⟩
   .exact .inl z
   .exact .inr ⟨d,ed,d1,z1,ne,mA,⟨od,es,ep,EL d _ d1 ne _ e2,c⟩,r⟩
  .refine(I.hok a u ha).kH (λb o hb hq=>?_) (λ_ q=>q) λ_ _ q=>q
   rcases hb with hb|hb
   .subst hb;exact EL b u ha hae o hq
   .refine EL b _ hb (λz=>?_) o hq;rw[z,he]at hb;cases hb
abbrev Bg (P:Program)(w:World):uD:=λouter H s E u s'=>∃ (e:Addr) (H':Hp) (C:Addr) (dx:Option Addr) (fs:List (Str×V)) (T:Addr),u=.ref e/\s'.os=s.os/\AllBare s'.gens/\Un (qh outer) [] H H' s.heap s'.heap/\hE P w H' s'.heap/\
 H' e=some (.exc C dx fs false)/\s.heap.objs.size<=T/\H' T=none/\BZ s'.heap e T .none/\E e H'
abbrev IC (X:Cx)(E:St->XK):Prop:=∀ (U:St) (H:Hp) (s:Shared) (e C:Addr) (dx:Option Addr) (fs:List (Str×V)),Inv X [] U H s->Gz X.s₀.heap.objs.size X.pn H s.heap e->H e=some (.exc C dx fs false)->E U e H->X.xe (.ref e) s
def oa {E:St->XK}(x:IC X E):Passes (Bg X.prog X.w) X E:=by
 intro Y U H s u s' I h;obtain⟨e,H',C,dx,fs,T,rfl,os,bare,un,hok,he,hT,hT0,st,q⟩:=h;have J:Inv X [] U H' s':=Inv.BE (ch:=[]) I.zt os un hok bare (λb z=>absurd z (by simp));exact x U H' s' e C dx fs J (.inr ⟨T,Nat.le_trans I.sz hT,hT0,λp hp=>sn (pi (v0 (I.pin p (mem_append_left _ hp)).1) hT),st⟩) he q
def oo {M:Model}{E E':NV}{Q:Shared->Prop}(I:Inv X [] U H s)(hs:X.stack=X.env::X.outer)(hf:X.env.frame=some X.env.locals)(sf:Gz X.s₀.heap.objs.size X.pn H s.heap e)(he:H e=some (.exc C dx fs false))
  (q:∀ s' T,Inv X [] U H s'->s'.os=s.os->X.s₀.heap.objs.size<=T->H T=none->(∀ p ∈ X.pn,p.1≠T)->BZ s'.heap e T .none->Q s'):
  wpAny M X.A (noteFrame (.ref e) X.env) (λ_ s1=>wpAny M X.A (setFlight (.ref e) none) (λ_ s2=>Q s2) E s1) E' s:=by
 have hl:s.heap.FunFrames X.base (X.env::X.outer):=hs▸I.stack;refine CS (by rw[<-hs];exact I.ok.frames) hl hf sf I.sz (λp hp=>v0 (I.pin p (mem_append_left _ hp)).1) λh1 T T0 hT hT0 hH0 hp0 hTd st fo fF sl sy th=>?_
 have I1:=I.noted (T0:=T0) (as:=qh (X.env::X.outer)) (h':=h1) hp0 he (by rw[hs]) hT0 hH0 hTd fo sl sy th;have hHT:H T=none:=I.hok.fresh hT;have hpT:∀ p ∈ X.pn,p.1≠T:=λp hp=>sn (pi (v0 (I.pin p (mem_append_left _ hp)).1) hT)
 refine vC (s:={ s with heap:=h1 }) st λh2 qG oth _ th2 rec2=>?_
 have I2:Inv X [] U H { s with heap:=h2 }:=by
  refine Inv.turned (s:={ s with heap:=h1 }) (it:=T) (h':=h2) (t':=s.toks) I1 (λb o hb hq=>(oth b hb).trans hq) hHT ?_ (.inr (Nat.le_trans I.sz hT)) (λx c hc z=>?_) λp hp=>hpT p (by simpa using hp)
  .exact λz=>absurd (pi I.lt hT) (by rw[z];exact Nat.lt_irrefl _)
  .obtain⟨v,o,ho,_⟩:=I.cell x c hc;exact absurd (pi (v0 ho) hT) (by rw[z];exact Nat.lt_irrefl _)
 exact q _ T I2 rfl (Nat.le_trans I.sz hT) hHT hpT qG
def yv {P:Program}{w:World}{K:W.Frag}{mg:NX}{base:Heap}{N:List Str}{qual:Str}{scope:Scope}{f:Addr}{cd:Value}{outer:List Env}{E:XK}:
  IC (xJ (Bg P w) P w K mg base N qual scope f cd A outer s H E) (λ_=>E):=by
 intro σ' H' s' e C dx fs I sf he q;show wpAny _ _ (do noteFrame (.ref e) _;setFlight (.ref e) none) _ _ s';refine ad (oo I rfl rfl sf he λs2 T J os hT hH _ st=>?_);exact⟨e,H',C,dx,fs,T,rfl,J.os,J.bare,J.base,J.hok,he,hT,hH,st,q⟩
end
structure Lf (K:W.Frag) (C f:Addr):Prop where
 mks:cu K C=true
 init:W.findIn K (.ref C) "__init__"=some (some (.ref f))
 fn:W.isFn K (.ref f)=true
 kp:W.keepIn K (.ref C)=true
variable {us:List Value}{vs:List V}{pl:Sem Bool}
section
variable {X:Cx}{Y:NW}{U:St}{H:Hp}{s:Shared}{C f:Addr}
def Inv.E9 (us:List Value)(I:Inv X Y U H s):Inv X Y U (upd H (s.heap.objs.size+1) (.exc C none [] true))
  { s with heap:=(s.heap.push { cls:=.type "tuple",data:=.seq us.toArray }).push { cls:=.ref C,data:=.fields #[.ref s.heap.objs.size,.none,.none,.none,.bool false,.none] } }:=by
 have I1:=I.kept (h':=s.heap.push { cls:=.type "tuple",data:=.seq us.toArray }) (t':=s.toks) λb u q=>ut _ q
 refine Inv.laid (s:={ s with heap:=s.heap.push { cls:=.type "tuple",data:=.seq us.toArray } }) (a:=s.heap.objs.size+1) (o:=.exc C none [] true) (t':=s.toks) I1 (λb u q=>ut _ q) (Nat.le_of_eq (Heap.size_push _ _)) ?_;refine⟨⟨#[.ref s.heap.objs.size,.none,.none,.none,.bool false,.none],?_,rfl,λ_=>rfl⟩,.inl ⟨rfl,rfl⟩⟩;have:=v4 (s.heap.push { cls:=.type "tuple",data:=.seq us.toArray }) (o:={ cls:=.ref C,data:=.fields #[.ref s.heap.objs.size,.none,.none,.none,.bool false,.none] }) rfl
 rwa [Heap.size_push]at this
variable {CX:uD}{k:Nat}{fd:FuncData}{ps:List Str}{sp:Sp}{dvs:List V}{ds:List Value}{E:St->XK}{x m:Str}{p pos apos:Pos}{e o:Expr}{es:List Expr}{ta:TE}{t:TA}
abbrev AN (C:Addr)(sp:Sp)(dvs:List V)(E:St->XK)(t:TA):TE:=λU H Q=>t U H λvs H1=>vs.length<=1000/\∀ x,H1 x=none->sp (.ref x::(vs++dvs)) (upd H1 x (.exc C none [] true)) (λv H2=>v=.non/\Q (.ref x) H2) (E U)
def ou {Q:VK}(M:Lf X.K C f)(F:dr X.prog X.w X.K X.mg X.base CX k f fd ps sp)(hr:bO (k+1) X.A)(hb:Binds X.K fd ps ds)(hd:Vals dvs ds)
  (hx:Passes CX X E) (hz:us.length<=bv) (I:Inv X Y U H s) (r:Vals vs us)
  (h:∀ x,H x=none->sp (.ref x::(vs++dvs)) (upd H x (.exc C none [] true)) (λv H2=>v=.non/\Q (.ref x) H2) (E U)):
  wpAny (model X.prog X.w) X.A (call (.ref C) us) (EP X Y U Q) X.xe s:=by
 have hq:=h (s.heap.objs.size+1) (I.hok.fresh (Nat.le_succ _));have I2:=Inv.E9 (C:=C) us I;have r2:Vals (V.ref (s.heap.objs.size+1)::(vs++dvs)) (Value.ref (s.heap.objs.size+1)::(us++ds)):=.cons rfl (r.append hd);have hl:(Value.ref (s.heap.objs.size+1)::us++ds).length=ps.length:=by
  have e:=r2.length;rw[F.len _ _ _ _ hq]at e;exact e.symm
 obtain⟨hh,g,d,tk,os⟩:=s;refine wpAny_call (Ga (fI:=f) I.bV hz M.mks M.init (beq_iff_eq.mp M.fn) (codeAny_mono (F.run _ X.stack _ _ ⟨Value.ref (hh.objs.size+1)::us,[]⟩ (Value.ref (hh.objs.size+1)::(us++ds)) _ _ (E U) (hr.make C us [])
  (I2.ji.make C us []) (hb _ (Value.ref (hh.objs.size+1)::us) I2.bV hl) r2 hq) λr s' hq'=>?_))
 cases r with
 |error e=>exact hx Y U _ _ e s' I2 hq'
 |ok fl=>
  cases fl with
  |ret u=>
   obtain⟨v,H',J,rv,ev,q⟩:=I2.after hq';subst ev;obtain rfl:u=Value.none:=rv;exact⟨rfl,.ref _,H',J,rfl,q⟩
  |next=>exact False.elim hq'
  |brk=>exact False.elim hq'
  |cont=>exact False.elim hq'
def zB (M:Lf X.K C f)(F:dr X.prog X.w X.K X.mg X.base CX k f fd ps sp)(hr:bO (k+1) X.A)(hg:Gl X x)(hm:X.mg x=some (.ref C))(hb:Binds X.K fd ps ds)(hd:Vals dvs ds)(hx:Passes CX X E)
  (ha:PA X (e::es) t) (hdb:(x ==("__debug__":Str))=false:=by decide) (he:bn (e::es) X.env=(false,eval e X.env)::bn es X.env:=by rfl) (hpl:(backTo pos (bn es X.env)).any (·.1)=false:=by rfl):
  PE X (.Call (.Name x p) (e::es) [] pos) (AN C sp dvs E t):=by
 intro Y s U H Q I h;refine ce (bH I hg hm ?_ hdb);refine W.callWith_K (h₀:=X.base) I.ok.mod.kin M.kp (aD (ha pos Y s U H _ I h) λus s1 ⟨vs,H1,I1,r,z,q⟩=>⟨I1.bV,?_⟩) he hpl;exact ou M F hr hb hd hx (by rw[nil_append,<-r.length];exact Nat.le_of_lt (dD z)) I1 r q
structure GK (K:W.Frag) (C:Addr):Prop where
 mks:cu K C=true
 init:W.findIn K (.ref C) "__init__"=some (some (.builtin "ValueError.__init__"))
 kp:W.keepIn K (.ref C)=true
 cls:c8 K C
abbrev C7 (C:Addr)(t:TA):TE:=λU H Q=>t U H λvs H1=>vs.length=1/\∀ x,H1 x=none->Q (.ref x) (upd H1 x (.exc C none [] true))
def tT {Q:VK}(M:GK X.K C)(I:Inv X Y U H s)(r:Vals vs us)(h1:vs.length=1)(h:∀ x,H x=none->Q (.ref x) (upd H x (.exc C none [] true))):
  wpAny (model X.prog X.w) X.A (call (.ref C) us) (EP X Y U Q) X.xe s:=by
 have hq:=h (s.heap.objs.size+1) (I.hok.fresh (Nat.le_succ _));have I2:=Inv.E9 (C:=C) us I;obtain⟨u,rfl⟩:∃ u,us=[u]:=by
  have e:=r.length;rw[h1]at e
  match us,e with
  | [u],_=>exact⟨u,rfl⟩
 obtain⟨hh,g,d,tk,os⟩:=s;refine wpAny_call (CY I.bV (by rw[sizeLine_eq];exact re rfl) M.mks M.init (lE (C:=C) (dx:=none) (fs:=[]) (fr:=true) I2 aE M.cls λs' J=>?_));exact⟨rfl,.ref _,_,J,rfl,hq⟩
def BG (M:GK X.K C)(hg:Gl X x)(hm:X.mg x=some (.ref C))(ha:PA X (e::es) t)(hdb:(x ==("__debug__":Str))=false:=by decide) (he:bn (e::es) X.env=(false,eval e X.env)::bn es X.env:=by rfl) (hpl:(backTo pos (bn es X.env)).any (·.1)=false:=by rfl):
  PE X (.Call (.Name x p) (e::es) [] pos) (C7 C t):=by
 intro Y s U H Q I h;refine ce (bH I hg hm ?_ hdb);refine W.callWith_K (h₀:=X.base) I.ok.mod.kin M.kp (aD (ha pos Y s U H _ I h) λus s1 ⟨vs,H1,I1,r,z,q⟩=>⟨I1.bV,?_⟩) he hpl;exact tT M I1 r z q
structure Nb (K:W.Frag) (B:Addr):Prop where
 ga:W.specialIn K (.ref B) "__getattribute__"=some (some (.builtin "type.__getattribute__"))
 rd:W.readsIn K B (.type "type")=true
 fi:W.findCls K (.ref B) (.type "type") "__init__"=some (.val (.builtin "ValueError.__init__"))
abbrev Mm (K:W.Frag)(t:TA):TE:=λU H Q=>t U H λvs H1=>∃ a C dx fs fr v,vs=[.ref a,v]/\H1 a=some (.exc C dx fs fr)/\c8 K C/\Q .non H1
def HI {B:Addr}{np:Pos}(b:Nb X.K B)(hg:Gl X x)(hm:X.mg x=some (.ref B))(ha:PA X (e::es) t)(hdb:(x ==("__debug__":Str))=false:=by decide)
  (hst:bn (e::es) X.env=(false,eval e X.env)::bn es X.env:=by rfl) (hpl:(backTo pos (bn es X.env)).any (·.1)=false:=by rfl)
  (ht:eval (.Call (.Attribute (.Name x np) "__init__" apos) (e::es) [] pos) X.env=(do
   let ov <-eval (.Name x np) X.env
   standAt apos.atName
   let(f,first) <-holding [ov] (getMethod ov "__init__" pl)
   callWith pos f first (backTo pos (bn (e::es) X.env)) (backToKw pos (keywordEach [] X.env))):=by rfl):
  PE X (.Call (.Attribute (.Name x np) "__init__" apos) (e::es) [] pos) (Mm X.K t):=by
 intro Y s U H Q I h;refine W.methodCall_KW (pl:=pl) (bH I hg hm ?_ hdb) ht;refine W.method_cls I.bV b.ga (W.cls_value I.bV b.rd b.fi (by decide+kernel) ?_);refine PyProof.Rows.callWith_builtin1 (aD (ha pos Y _ U H _ (I.tok _) h) λus s1 ⟨vs,H1,I1,r,a,C,dx,fs,fr,v,ev,ea,c,q⟩=>?_) hst hpl;subst ev;cases r with
 |cons r1 r2=>
  cases r2 with
  |cons r3 r4=>
   cases r4;cases r1;exact vj I1 ea c λs' J=>⟨.non,H1,J,rfl,q⟩
structure MQ (K:W.Frag) (C f:Addr):Prop where
 ga:W.specialIn K (.ref C) "__getattribute__"=some (some (.builtin "type.__getattribute__"))
 rd:W.readsIn K C (.type "type")=true
 fi:W.findCls K (.ref C) (.type "type") "__init__"=some (.val (.ref f))
 kp:W.keepIn K (.ref f)=true
def GD {np:Pos}(b:MQ X.K C f)(F:dr X.prog X.w X.K X.mg X.base CX k f fd ps sp)(hr:bO k X.A)(hg:Gl X x)(hm:X.mg x=some (.ref C))(hb:Binds X.K fd ps ds)(hd:Vals dvs ds)(hx:Passes CX X E)(ha:PA X (e::es) t)(hdb:(x ==("__debug__":Str))=false)
  (hst:bn (e::es) X.env=(false,eval e X.env)::bn es X.env) (hpl:(backTo pos (bn es X.env)).any (·.1)=false)
  (ht:eval (.Call (.Attribute (.Name x np) "__init__" apos) (e::es) [] pos) X.env=(do
   let ov <-eval (.Name x np) X.env
   standAt apos.atName
   let(f,first) <-holding [ov] (getMethod ov "__init__" pl)
   callWith pos f first (backTo pos (bn (e::es) X.env)) (backToKw pos (keywordEach [] X.env)))):
  PE X (.Call (.Attribute (.Name x np) "__init__" apos) (e::es) [] pos) (Aa sp dvs E t):=by
 intro Y s U H Q I h;refine W.methodCall_KW (pl:=pl) (bH I hg hm ?_ hdb) ht;refine W.method_cls I.bV b.ga (W.cls_value I.bV b.rd b.fi rfl ?_);refine W.callWith_K (h₀:=X.base) (first:=[]) I.ok.mod.kin b.kp (aD (ha pos Y _ U H _ (I.tok _) h) λus s1 ⟨vs,H1,I1,r,q⟩=>⟨I1.bV,?_⟩) hst hpl;exact l6 F hr hb hd hx I1 r q
end
section
open PySem.Builtin PySem.Builtin.ObjectAttr
variable {prog:Program}{w:World}{A:Around}{E:NV}{s:Shared}{K:W.Frag}{x C:Addr}{ox:Obj}{odo:Option Obj}
structure AB (K:W.Frag) (C:Addr):Prop where
 ha:W.findIn K (.ref C) "__class__"=some (some (.builtin "object.__class__"))
 hn:W.specialIn K (.builtin "object.__class__") "__get__"=some (some (.builtin "getset_descriptor.__get__"))
 htk:W.takesIn K (.builtin "object.__class__")=some true
def Dz {Q:Option Value->Shared->Prop}(X:K.In s.heap)(I:W.InstAt s.heap x ox C odo)(c:c8 K C)(z:AB K C)(hfo:W.findObj K C odo "__class__"=some (.bind (.builtin "getset_descriptor.__get__") (.builtin "object.__class__")))
  (h:Q (some (.ref C)) { s with toks:=s.toks+1 }):wpAny (model prog w) A (getAttr? (.ref x) "__class__") Q E s:=by
 obtain⟨hp,g,d,t,os⟩:=s;have L0:=I.type (M:=model prog w);have L1:=looks_findIn (M:=model prog w) X c.ga;have L2':=looks_findIn (M:=model prog w) X c.gn;have L3:=looks_find (M:=model prog w) X I hfo;have L4:Looks (model prog w) hp (isInstance (.ref x) (.type "BaseException")) true:=I.type.andThen (looks_mroIn X (c.sub (by decide+kernel)));unfold getAttr? getAttrBy? getAttrBy;refine ad (wpAny_mkText (ad (wpAny_attempt (bd (ad (L0.at (ad (L1.at ?_))))))));have e1:(Value.builtin "BaseException.__getattribute__" ==Value.builtin "object.__getattribute__")=false:=by decide+kernel
 dsimp only;rw[e1,Bool.and_false];show wpAny _ _ (getAttrByItsOwn _ _ _ _ _ _) _ _ _;unfold getAttrByItsOwn hookBefore;refine ad (L2'.at ?_);refine ad (wpAny_attempt (bd ?_));unfold callGetattribute;show wpAny _ _ (boundAndCalled _ _ _) _ _ _;unfold boundAndCalled;rw[PySem.F.attr_ValueError.ga.bind];refine ad (am (wpAny_call (codeAny_call_builtin PySem.F.attr_ValueError.ga.plain PySem.F.entry_bexc_ga ?_)));refine @check_slot (model prog w) _ _ _ "BaseException.__getattribute__" "BaseException" "__getattribute__" (.ref x) [.str "__class__" t] [] _ sP ot L4 (PySem.F.args_bexc_ga (.ref x) (.str "__class__" t)) ?_;unfold Builtin.«object.__getattribute__»;refine ad (am (ad (am (ad (L0.at (ad (L3.at ?_)))))));show wpAny _ _ (holding [_] (call _ [_,.ref x,.ref C]) >>= ret) _ _ _;refine ad (bd (wpAny_call (class_get (s:=⟨hp,g,d,t+1,os⟩) (ox:=ox) (od:=odo) X I (c.sub (by decide+kernel)) ?_)));refine am ?_;show wpAny _ _ (handedOut (.ref C)) _ _ _;exact handed_on rfl (am h)
def zY (c:c8 K C)(z:AB K C):W.findObj K C odo "__class__"=some (.bind (.builtin "getset_descriptor.__get__") (.builtin "object.__class__")):=by
 obtain⟨cd,hc,_⟩:=W.any_some c.hd;unfold W.findObj;rw[hc,Option.bind_some,z.ha,Option.bind_some];simp[z.hn,z.htk]
def Bv (c:c8 K C)(z:AB K C):W.KitX K (.ref x) (.ref C) (λh=>W.InstAt h x ox C odo) where
 ty:=λ_ _ _ I=>I.type
 it:=λ_ _ X _=>by
  obtain⟨cdD,hcD,_⟩:=W.any_some c.hd;unfold W.clsIn at hcD
  split at hcD
  .rename_i c' d' cd' sl' ho;intro A' Q' E' s' k q;unfold isType loadHead;exact ad (wpAny_loadPart (k _ _ (X _ _ ho)) (am q))
  .cases hcD
 ne:=λh tp dd its n sl X htp=>by
  obtain⟨cdD,hcD,_⟩:=W.any_some c.hd;refine Bool.eq_false_iff.mpr λq=>?_
  have e:C=tp:=Value.ref.inj (beq_iff_eq.mp q);subst e;unfold W.clsIn at hcD
  split at hcD
  .rename_i c' d' cd' sl' ho;have z:=(X _ _ ho).symm.trans htp;cases z
  .cases hcD
 ca:=λX I k=>Dz X I c z (zY c z) k
end
section
variable {X:Cx}{Y:NW}{U:St}{H:Hp}{s:Shared}{a C:Addr}{dx:Option Addr}{fs:List (Str×V)}{fr:Bool}
def Bb (I:Inv X Y U H s)(e:H a=some (.exc C dx fs fr)):∃ ox odo,W.InstAt s.heap a ox C odo:=by
 obtain⟨⟨vs,ho,_⟩,z⟩:=id (I.hok a _ e);rcases z with⟨rfl,_⟩|⟨d,rfl,_,_,_,mA,⟨od,es,ep,hod,_⟩,_⟩
 .exact⟨_,none,ho,rfl,rfl,True.intro⟩
 .exact⟨_,some od,ho,rfl,rfl,hod⟩
def BB {E:NV}{Q:NV}{cv:Value}{b:Bool}(I:Inv X Y U H s)(e:H a=some (.exc C dx fs fr))(c:c8 X.K C)(z:AB X.K C)(k:W.kitOne X.K (.ref C) cv=some b)
  (h:∀ tk,Q (.bool b) { s with toks:=tk }):wpAny (model X.prog X.w) A (call (.builtin "isinstance") [.ref a,cv]) Q E s:=by
 obtain⟨ox,odo,J⟩:=Bb I e;exact W.kia_one (Bv (ox:=ox) (odo:=odo) c z) I.bV J k (λz=>nomatch z) h
end
end L2
namespace L2
open PySem PySem.Spec PySem.W PyProof.Rows
variable {dx:Option Addr}
section
variable {X:Cx}{f:Str}{o value ex:Expr}{ta tv te:TE}{pos pos':Pos}{E:St->XK}
def tW {h:Heap}{a:Addr}{C:Addr}{vs:Array Value}{M:Model}(ho:h.get? a=some { cls:=.ref C,dict:=dx,data:=.fields vs }):W.Looks M h (isType (.ref a)) false:=by
 intro A Q E s k q;unfold isType loadHead;exact ad (wpAny_loadPart (k _ _ ho) (am q))
abbrev F4 (K:W.Frag)(E:St->XK)(te:TE):TS:=λD U H=>te U H λv H1=>∃ a C dx fs,v=.ref a/\H1 a=some (.exc C dx fs true)/\c8 K C/\E U a (upd H1 a (.exc C dx fs false))
def zC (hx:IC X E)(hc:X.calm=true)(he:PE X ex te):PS X (.Raise (some ex) none pos) (F4 X.K E te):=by
 intro Y s U H D I h;rw[arm_exec_Raise];simp only[evalOpt,Option.map];refine ad (wpAny_standAt ?_);unfold raiseStmt;refine ad (ad (aD (he Y s U H _ I h) λu s1 ⟨y,H1,I1,ry,a,C,dx,fs,ey,ea,c,q⟩=>ad (wpAny_standAt (am ?_))));subst ey;obtain rfl:u=Value.ref a:=ry;obtain⟨⟨vs,ho,hsz,h1⟩,z⟩:=id (I1.hok a _ ea);have h1':=h1 rfl;have hq:X.xe (.ref a) s1:=by
  have J:Inv X [] U (upd H1 a (.exc C dx fs false)) s1:=by
   have J1:=I1.zt.write (x:=a) (e:=a) (o:=.exc C dx fs false) (t':=s1.toks) (h':=s1.heap) (by rw[ea];exact True.intro) (.inl rfl) (λ_ _ _ q=>q) ⟨_,ho⟩ ?_
   .exact J1
   .refine⟨⟨vs,ho,hsz,λy=>by cases y⟩,?_⟩;rcases z with z|⟨d,ed,d1,z1,ne,r⟩
    .exact .inl z
    .exact .inr ⟨d,ed,by rw[aj ne];exact d1,z1,ne,r⟩
  exact hx U _ s1 a C dx fs J (.inl ⟨_,vs,ho,rfl,h1'⟩) aE q
 obtain⟨hp,g,d,tk,os⟩:=s1;have L0:Looks (model X.prog X.w) hp (typeOf (.ref a)) (.ref C):=(Looks.ld ho).andThen .now;have L1:Looks (model X.prog X.w) hp (isType (.ref a)) false:=tW ho;have L2':Looks (model X.prog X.w) hp (isInstance (.ref a) (.type "BaseException")) true:=L0.andThen (looks_mroIn I1.bV (c.sub (by decide+kernel)));have L5:Looks (model X.prog X.w) hp (typeOf (.ref C)) (.type "type"):=looks_typeIn I1.bV c.mt;have tt:(Value.type "type" ==Value.type "type")=true:=by decide
 repeat(first|simp only[Bool.false_eq_true,if_false,if_true,tt]|lk)
 rw[h1'];refine am ?_;rw[if_neg (by decide)];exact am (wpAny_raiseNew_none (I1.ok.hd hc) hq)
end
@[reducible]def Cx.bS (X:Cx) (e:Value):Cx:={ X with A:=X.A.mark (some e),calm:=false,xe:=λ_ _=>False }
variable {xe:NV}{ps:NW}{D:Ends}
section
variable {X:Cx}{Y:NW}{U:St}{H:Hp}{s:Shared}
def Cx.Ok.bS (ok:X.Ok)(e:Value):(X.bS e).Ok:=
 ⟨ok.mod,ok.kind,ok.glob,ok.blt,ok.above,ok.inj,ok.has,ok.cab,(λz=>by cases z),ok.frames,ok.stk,ok.exf,ok.bs,ok.bsz,ok.noex,ok.exfs,ok.kO,ok.frf⟩
def Inv.bS (I:Inv X Y U H s)(e:Value):Inv (X.bS e) Y U H s:=⟨I.ok.bS e,I.os,I.bare,I.base,I.loc,I.cell,I.free,I.freeC,I.pin,I.hok,I.len⟩
def Inv.kW {e:Value}(ok:X.Ok)(I:Inv (X.bS e) Y U H s):Inv X Y U H s:=⟨ok,I.os,I.bare,I.base,I.loc,I.cell,I.free,I.freeC,I.pin,I.hok,I.len⟩
def gd {M:Model}{A:Around}{E:NV}{Q:NU}{i:Nat}{n:Str}{pos:Pos}(I:Inv X Y U H s)(hN:X.N.Nodup)(hi:X.N[i]? =some n)(hn:X.env.scope.names.lookup n=some .local)
  (h:∀ s',Inv X Y (U.set i none) H s'->Q () s'):wpAny M A (do bindName X.env n .none;unbindBehindTheSuite X.env n pos) Q E s:=by
 have hcls:(X.env.scope.kind ==.class||(X.env.scope.kind ==.module&&X.env.locals != X.env.globals))=false:=by rw[I.ok.kind];rfl
 refine ad (wpAny_bindName (bR I hN hi (.inl hn) (v:=.non) rfl (λs1 I1=>?_) (.inr hn)));obtain⟨m,hm,hl⟩:=I1.loc;unfold unbindBehindTheSuite;refine wpAny_onRaise ?_;unfold unbindName;refine ad (wpAny_point (ad ?_));unfold deleteName;have hk:X.env.kindOf n=some .local:=hn;have hiσ:i<U.length:=by rw[I.len];exact(ul.mp hi).1
 have hmn:(m n).isSome=true:=by
  obtain⟨u,_,l⟩:=hl i n .non hi (by rw[getElem?_set_self hiσ]) (.inl hn);rcases l with⟨_,q⟩|⟨q,_⟩
  .rw[q];rfl
  .rcases q with q|q<;>(rw[hk]at q;cases q)
 simp only[hk,hcls];rw[if_neg (by decide)];refine ad (wpAny_nsDel_keeps hm λh2 v hn2 hs2=>?_);rw[hmn];simp only[if_true,Bool.not_true,Bool.false_eq_true,if_false];refine am (wpAny_point (h { s1 with heap:=h2 } ?_));obtain⟨oL,esL,epL,hoL,_⟩:=id hm;have zJ:=I1.zJ;refine⟨I1.ok,I1.os,I1.bare,⟨λb o e n hb hx=>?_,λb o e n hb hx=>?_,I1.base.free,λb o e hx=>?_,I1.base.tups,I1.base.frzs,I1.base.tbls⟩,⟨_,hn2,λj y v' e1 e2 e3=>?_⟩,λy c e=>?_,I1.free,I1.freeC,λp hp=>?_,λa u ha=>?_,by rw[length_set];exact I.len⟩
 .exact(hs2.2 b (sn (pi (v0 e) I1.ok.above))).trans (I1.base.keep b o e n hb hx)
 .obtain⟨sl,q⟩:=I1.base.slot b o e n hb hx;exact⟨sl,(hs2.2 b (sn (pi (v0 e) I1.ok.above))).trans q⟩
 .obtain⟨o',q⟩:=I1.base.there b o e hx;exact⟨o',(hs2.2 b (sn (pi (v0 e) I1.ok.above))).trans q⟩
 .have hj:j≠i:=λz=>by rw[z,getElem?_set_self hiσ]at e2;cases e2
  rw[getElem?_set_ne (Ne.symm hj)]at e2;obtain⟨u,r,q⟩:=hl j y v' e1 (by rw[getElem?_set_ne (Ne.symm hj)];exact e2) e3;refine⟨u,r,?_⟩;rcases q with⟨k,e⟩|⟨k,c,e,z⟩
  .refine .inl ⟨k,?_⟩;have ny:y≠n:=λz=>hj (ml hN e1 (z▸hi))
   show(if y=n then v else m y)=some u;rw[if_neg ny];exact e
  .exact .inr ⟨k,c,e,z.sameBut hs2 (zJ y c e)⟩
 .obtain⟨w',z⟩:=I1.cell y c e;exact⟨w',z.sameBut hs2 (zJ y c e)⟩
 .obtain⟨e,n,ne,nf,d⟩:=I1.pin p hp;exact⟨(hs2.2 p.1 ne).trans e,n,ne,nf,d⟩
 .refine(I1.hok a u ha).kH (λb o hb hq=>(hs2.2 b ?_).trans hq) (λ_ q=>q) λ_ _ q=>q
  rintro rfl;rcases hb with hb|hb
  .rw[<-hb,I1.free]at ha;cases ha
  .rw[I1.free]at hb;cases hb
@[reducible]def Cx.gX (X:Cx) (Y:NW) (xe:NV):Cx:={ X with pn:=X.pn++Y,xe:=xe }
def Cx.Ok.gX (ok:X.Ok)(Y:NW)(xe:NV):(X.gX Y xe).Ok:=
 ⟨ok.mod,ok.kind,ok.glob,ok.blt,ok.above,ok.inj,ok.has,ok.cab,ok.hd,ok.frames,ok.stk,ok.exf,ok.bs,ok.bsz,ok.noex,ok.exfs,ok.kO,ok.frf⟩
def Inv.gX (I:Inv X Y U H s)(xe:NV):Inv (X.gX Y xe) [] U H s:=
 ⟨I.ok.gX Y xe,I.os,I.bare,I.base,I.loc,I.cell,I.free,I.freeC,λp hp=>I.pin p (by simpa using hp),I.hok,I.len⟩
def Inv.gW (ok:X.Ok)(I:Inv (X.gX Y xe) ps U H s):Inv X Y U H s:=
 ⟨ok,I.os,I.bare,I.base,I.loc,I.cell,I.free,I.freeC,λp hp=>I.pin p (mem_append_left _ hp),I.hok,I.len⟩
def SP.gW {f:Flow}(ok:X.Ok)(h:SP (X.gX Y xe) ps D f s):SP X Y D f s:=by
 cases f with
 |next=>obtain⟨σ',H',I,q⟩:=h;exact⟨σ',H',I.gW ok,q⟩
 |brk=>obtain⟨σ',H',I,q⟩:=h;exact⟨σ',H',I.gW ok,q⟩
 |cont=>obtain⟨σ',H',I,q⟩:=h;exact⟨σ',H',I.gW ok,q⟩
 |ret u=>obtain⟨v,σ',H',I,r,q⟩:=h;exact⟨v,σ',H',I.gW ok,r,q⟩
def GF {body:List Stmt}{h0:ExceptHandler}{hs:List ExceptHandler}{pos:Pos}{E':St->XK}(I:Inv X Y U H s)(hstk:X.stack=X.env::X.outer)(hfr:X.env.frame=some X.env.locals)
  (hb:∀ xe,IC (X.gX Y xe) E'->PassesOwn (model X.prog X.w) X.A X.env xe->wpAny (model X.prog X.w) X.A (execs body X.env) (SP (X.gX Y xe) [] D) xe s)
  (hh:∀ (U:St) (H:Hp) (s:Shared) (e C:Addr) (dx:Option Addr) (fs:List (Str×V)) (T:Addr),Inv X Y U H s->H e=some (.exc C dx fs false)->X.s₀.heap.objs.size<=T->H T=none->(∀ p ∈ X.pn++Y,p.1≠T)->BZ s.heap e T .none->E' U e H->
   wpAny (model X.prog X.w) X.A (handleBy (.ref e) X.env (h0::hs)) (SP X Y D) X.xe s):
  wpAny (model X.prog X.w) X.A (exec (.Try body (h0::hs) [] [] pos) X.env) (SP X Y D) X.xe s:=by
 refine wpAny_Try_except (wpAny_mono (hb (λu s1=>wpAny (model X.prog X.w) X.A (noteFrame u X.env) (λ_ s2=>wpAny (model X.prog X.w) X.A (setFlight u none) (λ_ s3=>wpAny (model X.prog X.w) X.A (handleBy u X.env (h0::hs)) (SP X Y D) X.xe s3) X.xe s2) X.xe s1) ?_ PassesOwn.looking) (λf s1 h1=>?_) λ_ _ z=>z)
 .intro σ' H' s' e C dx fs J sf he q;exact oo (X:=X.gX Y _) J hstk hfr sf he λs2 T J2 _ hT hH hp st=>hh σ' H' s2 e C dx fs T (J2.gW I.ok) he hT hH hp st q
 .have h2:=SP.gW I.ok h1;cases f with
  |next=>exact wpAny_execs_nil h2
  |brk=>exact h2
  |cont=>exact h2
  |ret u=>exact h2
def sU {n x:Str}{np hpos:Pos}{b0:Stmt}{bS:List Stmt}{rest:List ExceptHandler}{i:Nat}{e C Ch T:Addr}{fs:List (Str×V)}{b:Bool}(I:Inv X Y U H s)(he:H e=some (.exc C dx fs false))
  (hT:X.s₀.heap.objs.size<=T) (hH:H T=none) (hp:∀ p ∈ X.pn++Y,p.1≠T) (st:BZ s.heap e T .none) (c:c8 X.K C) (ch:c8 X.K Ch) (hsub:W.mroIn X.K C (.ref Ch)=some b) (hg:Gl X x) (hm:X.mg x=some (.ref Ch))
  (hN:X.N.Nodup) (hi:X.N[i]? =some n) (hn:X.env.scope.names.lookup n=some .local) (hdb:(x ==("__debug__":Str))=false)
  (yes:b=true->∀ s2,Inv (X.bS (.ref e)) Y (U.set i (some (.ref e))) H s2->wpAny (model X.prog X.w) (X.A.mark (some (.ref e))) (execs (b0::bS) X.env)
   (SP (X.bS (.ref e)) Y { nx:=λσ' H'=>D.nx (σ'.set i none) H',rt:=D.rt,bk:=λσ' H'=>D.bk (σ'.set i none) H',ct:=λσ' H'=>D.ct (σ'.set i none) H' }) (λ_ _=>False) s2)
  (no:b=false->wpAny (model X.prog X.w) X.A (handleBy (.ref e) X.env rest) (SP X Y D) X.xe s):
  wpAny (model X.prog X.w) X.A (handleBy (.ref e) X.env (.ExceptHandler (some (.Name x np)) (some n) (b0::bS) hpos::rest)) (SP X Y D) X.xe s:=by
 have I':=I.bS (.ref e);refine wpAny_handleBy_cons (codeAny_handlers_test (bH (X:=X.bS (.ref e)) I' hg hm ?_ hdb)) (by intro q;cases q);obtain⟨⟨vs,ho,hsz,h1⟩,z⟩:=id (I.hok e _ he);have L0:Looks (model X.prog X.w) s.heap (typeOf (.ref e)) (.ref C):=(Looks.ld ho).andThen .now;have L1:Looks (model X.prog X.w) s.heap (typeOf (.ref Ch)) (.type "type"):=looks_typeIn I.bV ch.mt;have L2':Looks (model X.prog X.w) s.heap (isInstance (.ref Ch) (.type "tuple")) false:=L1.andThen (Looks.of_pure tc_notTuple);have L3:Looks (model X.prog X.w) s.heap (isType (.ref Ch)) true:=by
  obtain⟨cd,rs,hcl,_⟩:=ch.mro;unfold W.clsIn at hcl
  split at hcl
  .rename_i ho';intro A' Q' E' s' k q;unfold isType loadHead;exact ad (wpAny_loadPart (k _ _ (I.bV _ _ ho')) (am q))
  .cases hcl
 have L4:Looks (model X.prog X.w) s.heap (isSubtype (.ref Ch) (.type "BaseException")) true:=looks_mroIn I.bV (ch.sub (by decide+kernel));have L5:Looks (model X.prog X.w) s.heap (isSubtype (.ref C) (.ref Ch)) b:=looks_mroIn I.bV hsub;have L6:Looks (model X.prog X.w) s.heap (isExcClass (.ref Ch)) true:=by
  unfold isExcClass;exact L3.andThen L4
 unfold excMatches;refine ad (L2'.here ?_);rw[if_neg (by decide)];refine ad (am ?_);simp only[forIn_cons,forIn_nil];refine ad (ad (ad (L6.here ?_)));rw[if_neg (by decide)];refine am ?_;refine am ?_;refine ad (L0.here ?_);refine ad (ad (ad (L5.here ?_)));cases b with
 |false=>
  rw[if_neg (by decide)];refine am ?_;refine am ?_;refine am ?_;exact no rfl
 |true=>
  rw[if_pos rfl];refine am ?_;refine am ?_;refine am ?_;refine codeAny_handlers_suite_as (vC st λh2 qG oth _ th2 _=>?_);have I2:Inv X Y U H { s with heap:=h2 }:=by
   refine Inv.turned (it:=T) (h':=h2) (t':=s.toks) I (λb o hb hq=>(oth b hb).trans hq) hH ?_ (.inr hT) (λy cc hc z=>?_) hp
   .intro z;obtain⟨m,⟨o,es,ep,ho',hd,_⟩,_⟩:=I.loc;obtain⟨_,_,oT,ts,_,_,_,_,hT2,hd2,_⟩:=st;rw[z,ho']at hT2;cases hT2;rw[hd]at hd2;cases hd2
   .obtain⟨v,o,ho',hd⟩:=I.cell y cc hc;obtain⟨_,_,oT,ts,_,_,_,_,hT2,hd2,_⟩:=st;rw[<-z,ho']at hT2;cases hT2;rw[hd]at hd2;cases hd2
  refine bR (X:=X.bS (.ref e)) (I2.bS (.ref e)) hN hi (.inl hn) (v:=.ref e) rfl (λs3 I3=>?_) (.inr hn);refine wpAny_mono (yes rfl s3 I3) (λf s4 h4=>?_) λ_ _ z=>z.elim
  cases f with
  |next=>
   obtain⟨σ',H',J,q⟩:=h4;exact gd (J.kW I.ok) hN hi hn λs5 J5=>⟨_,H',J5,q⟩
  |brk=>
   obtain⟨σ',H',J,q⟩:=h4;exact gd (J.kW I.ok) hN hi hn λs5 J5=>⟨_,H',J5,q⟩
  |cont=>
   obtain⟨σ',H',J,q⟩:=h4;exact gd (J.kW I.ok) hN hi hn λs5 J5=>⟨_,H',J5,q⟩
  |ret u=>
   obtain⟨v,σ',H',J,r,q⟩:=h4;exact gd (J.kW I.ok) hN hi hn λs5 J5=>⟨v,_,H',J5,r,q⟩
end
end L2
namespace L2
open PySem PySem.Spec PyProof.Rows
def FV:bootBuiltins "isinstance"=some (.builtin "isinstance"):=by decide+kernel
section
variable {X:Cx}
abbrev JY (K:W.Frag):V->V->Hp->VK->Prop:=λx y H Q=>∃ p xs i v,x=.ref p/\y=.int i/\bb K H p xs/\0<=i/\xs[i.toNat]? =some v/\Q v H
def AM:G5 X (JY X.K):=by
 intro Y s U H o i ov iv Q I ro ri h;obtain⟨p,xs,k,z,rfl,rfl,hq,h0,he,q⟩:=h;cases ro;obtain⟨t,rfl⟩:=ri;obtain⟨its,r,pl,hz⟩:=I.list hq;obtain⟨w,ew,rw'⟩:=r.get he;have hl:k.toNat<xs.length:=(ul.mp he).1;have hn:=jn;exact wpAny_getItem_list pl.isList h0 nofun (by simpa using ew) ⟨z,H,I,rw',q⟩
def k7 {xs:List V}{us:List Value}(r:Vals xs us){j:Nat}(h:j<us.toArray.size):∃ x,xs[j]? =some x/\RelV x (us.toArray[j]):=by
 have hl:=r.length;have hj:j<us.length:=by simpa using h
 have e:xs[j]? =some xs[j]:=lw nofun;obtain⟨u,h1,h2⟩:=r.get e;refine⟨_,e,?_⟩;rw[lw hj]at h1;cases h1;simpa using h2
end
section
variable {U:St}{H:Hp}{Q:VK}{D:Ends}{K:W.Frag}
abbrev tG (x:V)(H:Hp)(R:Bool->Hp->Prop):Prop:=∃ k,x=.bl k/\R k H
def dJ {α:Type}{xs:List α}{i:Int}(h0:0<=i)(h1:i<xs.length):∃ v,lS xs i=some v/\v ∈ xs:=by
 obtain⟨n,rfl⟩:=Int.eq_ofNat_of_zero_le h0;have hn:n<xs.length:=by omega
 exact⟨xs[n],pR (lw hn),getElem_mem hn⟩
end
section
variable {K:W.Frag}{g:TG}{tb:TS}{D:Ends}{U:St}{H:Hp}{tl:TE}{ta:TA}
end
def fits {n:Nat}(h:n<=1000):n<=bv:=Nat.le_of_lt (dD h)
section
variable {X:Cx}{H:Hp}{Q:VK}
end
section
variable {K:W.Frag}
end
section
variable {H H':Hp}{h c p:Addr}{m n:Int}{o:HO}
end
def Jk (ns:List Int)(h:ns.length<=63):sL (ns.map V.int) none (some 63)=ns.map V.int:=by
 have e1:HT.sD (ns.map V.int).length 0 none=0:=rfl;have e2:HT.sD (ns.map V.int).length (ns.map V.int).length (some 63)=(ns.map V.int).length:=by
  show(if(63:Int)<0 then((63:Int)+((ns.map V.int).length:Int)).toNat else min (63:Int).toNat (ns.map V.int).length)=(ns.map V.int).length;rw[if_neg (by decide),ci];show min 63 ns.length=ns.length
  omega
 unfold sL;rw[e1,e2,drop_zero,Nat.sub_zero,take_length]
variable {ns:List Int}
def ui {i:Nat}{x:V}(h:(ns.map V.int)[i]? =some x):∃ z,x=V.int z:=by
 rw[io]at h;cases e:ns[i]? with
 |none=>rw[e]at h;cases h
 |some z=>rw[e]at h;exact⟨z,(Option.some.inj h).symm⟩
def zX {i:Int}(h0:0<=i)(h1:i<ns.length):∃ z,lS (ns.map V.int) i=some (.int z):=by
 obtain⟨v,a,m⟩:=dJ (xs:=ns.map V.int) h0 (by rw[ci];exact h1);obtain⟨z,_,rfl⟩:=List.mem_map.mp m;exact⟨z,a⟩
section
variable {H:Hp}{Q:VK}
end
section
variable {X:Cx}
end
variable {A:Around}{E:NV}{s:Shared}
def EB {α:Type}{t:Sem α}{Q Q':α->Shared->Prop}{M:Model}(h:wpAny M A t Q (λ_ _=>False) s) (hQ:∀ a s,Q a s->Q' a s):wpAny M A t Q' E s:=wpAny_mono h hQ λ_ _ x=>x.elim
abbrev gr (X:Cx)(scope:Scope)(cl:List (Str×Addr))(N:List Str)(s:Shared)(H:Hp)(fp:List Addr):Cx:=
 { X with N:=N,s₀:=s,H₀:=H,env:=compEnvC scope cl s.heap.objs.size X.env,outer:=X.stack,stack:=X.stack,ex:=fp,fn:=λ_=>false,pn:=[],xe:=λ_ _=>False }
structure bK (X:Cx) (scope:Scope) (cl:List (Str×Addr)) (xs:List Str) (fr:List Str) (sel:List Nat):Prop where
 clos:closureFor scope X.env=pure cl
 sub:∀ y c,cl.lookup y=some c->X.env.cells.lookup y=some c
 has:∀ y,((relabel scope X.env).names.lookup y=some .cell\/(relabel scope X.env).names.lookup y=some .free)->∃ c,cl.lookup y=some c
 kind:scope.kind=.function
 nocell:∀ y ∈ scope.names,y.2≠.cell
 names:∀ y ∈ scope.names,y.2=.local->scope.names.lookup y.1=some .local
 own:∀ x ∈ xs,scope.names.lookup x=some .local
 len:sel.length=fr.length
 out:∀ (j:Nat) (y:Str),fr[j]? =some y->∃ i,sel[j]? =some i/\X.N[i]? =some y/\X.env.scope.names.lookup y=some .cell/\(relabel scope X.env).names.lookup y=some .cell
 nd:(xs++fr).Nodup
abbrev iH (U:St)(sel:List Nat):St:=sel.map λi=>U.getD i none
abbrev LC (te:TE)(J:It)(σ₀:St)(H1:Hp)(Q:VK):Prop:=∀ D,H1 D=none->∃ W:Nat->Nat->St->Hp->Prop,(∃ m,W 0 m σ₀ (upd H1 D (.lst [])))/\∀ i m σ' H',W i m σ' H'->
 (J.stop i H'/\Q (.ref D) H')\/(J.go i H'/\∃ N:St->Hp->Prop,(∀ σ2 H2,N σ2 H2->∃ m',m'<m/\W (i+1) m' σ2 H2)/\
  ∀ x H'',J.yld i H' x H''->te (σ'.set 0 (some x)) H'' λv H3=>∃ zs,H3 D=some (.lst zs)/\zs.length<bv/\N (σ'.set 0 (some x)) (upd H3 D (.lst (zs++[v]))))
abbrev gate (env:Env):List Expr->Sem Bool
 | []=>pure true
 |c::_=>isTrue c env (eval c env)
variable {ifs:List Expr}{scope:Scope}{pos:Pos}
def vo {M:Model}{elt target iter:Expr}{it acc:Value}{env:Env}{Q:PySem.Fin->Shared->Prop}(hi:ifs.length<=1)
  (h:wpAny M A (pyNext it) (λr s1=>match r with
   |none=>Q (.done .next) s1
   |some v=>wpAny M A (letOwnedTupleGo target it v) (λ_ s2=>wpAny M A (assign target env v) (λ_ s3=>wpAny M A (gate env ifs) (λok s4=>
    (ok=true->wpAny M A (eval elt env) (λx s5=>wpAny M A (call (.builtin "list.append") [acc,x]) (λ_ s6=>wpAny M A (again (.compLoop (.ListComp elt [⟨target,iter,ifs,0⟩] scope pos) 0 it acc env)) Q E s6) E s5) E s4)/\
    (ok=false->wpAny M A (again (.compLoop (.ListComp elt [⟨target,iter,ifs,0⟩] scope pos) 0 it acc env)) Q E s4)) E s3) E s2) E s1) E s):
  wpAny M A (compTurn (.ListComp elt [⟨target,iter,ifs,0⟩] scope pos) 0 it acc env) Q E s:=by
 have key:∀ {g:Sem Bool}{K:Sem PySem.Fin}{s:Shared},wpAny M A g (λok s4=>
    (ok=true->wpAny M A (eval elt env) (λx s5=>wpAny M A (call (.builtin "list.append") [acc,x]) (λ_ s6=>wpAny M A K Q E s6) E s5) E s4)/\
    (ok=false->wpAny M A K Q E s4)) E s->wpAny M A (g >>= λok=>if ok=true then(eval elt env >>= λx=>call (.builtin "list.append") [acc,x] >>= λ_=>pure ()) >>= λ_=>K else K) Q E s:=λ{g K s} h=>by
  refine ad (wpAny_mono h (λok s4 h4=>?_) λ_ _ e=>e);cases ok with
  |false=>exact h4.2 rfl
  |true=>exact ad (ad (wpAny_mono (h4.1 rfl) (λx s5 h5=>ad (wpAny_mono h5 (λ_ s6 h6=>am h6) λ_ _ e=>e)) λ_ _ e=>e))
 match ifs,hi with
 | [],_=>
  rw[compTurn_list1];refine ad (wpAny_standAt (ad (wpAny_mono h (λr s1 h1=>?_) λ_ _ e=>e)));cases r with
  |none=>exact am h1
  |some v=>
   refine ad (wpAny_mono h1 (λ_ s2 h2=>ad (wpAny_mono h2 (λ_ s3 h3=>?_) λ_ _ e=>e)) λ_ _ e=>e);exact key (g:=pure true) h3
 | [c],_=>
  unfold compTurn;simp only[List.getElem?_cons_zero,List.getElem?_cons_succ,List.getElem?_nil];dsimp only[forIn,List.forIn',List.forIn'.loop,forIn'];rw[if_neg (by decide),if_neg (by decide)];refine ad (wpAny_standAt (ad (wpAny_mono h (λr s1 h1=>?_) λ_ _ e=>e)));cases r with
  |none=>exact am h1
  |some v=>
   refine ad (wpAny_mono h1 (λ_ s2 h2=>ad (wpAny_mono h2 (λ_ s3 h3=>?_) λ_ _ e=>e)) λ_ _ e=>e);refine key ?_;rw[if_pos rfl];refine ad (ad (wpAny_mono h3 (λok s4 h4=>am ?_) λ_ _ e=>e));exact am h4
abbrev LCg (tg:TG)(tc:TT)(te:TE)(J:It)(σ₀:St)(H1:Hp)(Q:VK):Prop:=∀ D,H1 D=none->∃ W:Nat->Nat->St->Hp->Prop,(∃ m,W 0 m σ₀ (upd H1 D (.lst [])))/\∀ i m σ' H',W i m σ' H'->
 (J.stop i H'/\Q (.ref D) H')\/(J.go i H'/\∃ N:St->Hp->Prop,(∀ σ2 H2,N σ2 H2->∃ m',m'<m/\W (i+1) m' σ2 H2)/\
  ∀ x H'',J.yld i H' x H''->tg x σ' H'' λσ2 H2=>tc σ2 H2 λb H3=>(b=true->te σ2 H3 λv H4=>∃ zs,H4 D=some (.lst zs)/\zs.length<bv/\N σ2 (upd H4 D (.lst (zs++[v]))))/\(b=false->N σ2 H3))
abbrev yes:TT:=λ_ H Q=>Q true H
variable {te:TE}
def LC.g {J:It}{σ₀:St}{H1:Hp}{Q:VK}(h:LC te J σ₀ H1 Q):LCg (ie 0) yes te J σ₀ H1 Q:=λD hD=>by
 obtain⟨W,w0,turn⟩:=h D hD;refine⟨W,w0,λi m σ' H' w=>?_⟩;rcases turn i m σ' H' w with z|⟨go,N,hN,step⟩
 .exact .inl z
 .exact .inr ⟨go,N,hN,λx H'' y=>⟨λ_=>step x H'' y,λe=>nomatch e⟩⟩
abbrev Ll (X:Cx)(ifs:List Expr)(tc:TT):Prop:=ifs.length<=1/\∀ (Y:NW) (s:Shared) (U:St) (H:Hp) (Q:Bool->Hp->Prop),Inv X Y U H s->tc U H Q->wpAny (model X.prog X.w) X.A (gate X.env ifs) (TP X Y U Q) X.xe s
variable {X:Cx}
def kZ:Ll X [] yes:=⟨Nat.zero_le _,λY s U H Q I q=>am ⟨H,I,q⟩⟩
def DA {c:Expr}{tc:TT}(h:PT X c tc):Ll X [c] tc:=⟨sw _,h⟩
abbrev tw (xs:List Str):St:=xs.map λ_=>none
abbrev M7 (wi:TI)(te:TE)(sel:List Nat):TE:=λU H Q=>wi U H λJ H1=>LC te J (none::iH U sel) H1 Q
abbrev IX (wi:TI)(tg:TG)(tc:TT)(te:TE)(xs:List Str)(sel:List Nat):TE:=λU H Q=>wi U H λJ H1=>LCg tg tc te J (tw xs++iH U sel) H1 Q
variable {cl:List (Str×Addr)}{xs fr:List Str}{sel:List Nat}{fp:List Addr}
section
variable {X:Cx}
def Un.sameBut {fs ex:List Addr}{H H':Hp}{h h1 h2:Heap}{C:Addr}(u:Un fs ex H H' h h1)(hs:Heap.SameBut C h1 h2)(hC:h.objs.size<=C):Un fs ex H H' h h2:=by
 have ne:∀ b o,h.get? b=some o->b≠C:=λb o e=>sn (pi (v0 e) hC)
 refine⟨λb o e n hb hx=>(hs.2 b (ne b o e)).trans (u.keep b o e n hb hx),λb o e n hb hx=>?_,u.free,λb o e hx=>?_,u.tups,u.frzs,u.tbls⟩
 .obtain⟨sl,q⟩:=u.slot b o e n hb hx;exact⟨sl,(hs.2 b (ne b o e)).trans q⟩
 .obtain⟨o',q⟩:=u.there b o e hx;exact⟨o',(hs.2 b (ne b o e)).trans q⟩
def qP {Y:NW}{U:St}{H:Hp}{h':Heap}{tk:Nat}{m':NX}
  (S:bK X scope cl xs fr sel) (I:Inv X Y U H s) (f2:∀ b ∈ fp,jo X Y H b) (fo:∀ b ∈ fp,b<s.heap.objs.size) (hns:h'.Ns s.heap.objs.size m') (keep:∀ b o,s.heap.get? b=some o->h'.get? b=some o):
  Inv (gr X scope cl (xs++fr) s H fp) (X.pn++Y) (tw xs++iH U sel) H { s with heap:=h',toks:=tk }:=by
 have stk:∀ b,b≠X.env.locals->b ∉ X.fs->b ∉ qh X.stack:=λb h1 h2 hb=>(nw.mp (I.jy b hb)).elim h1 h2
 refine⟨⟨I.ok.mod,S.kind,I.ok.glob,I.ok.blt,sw _,λy z c h1 h2=>I.ok.inj y z c (S.sub y c h1) (S.sub z c h2),λy hy=>S.has y hy,(λy c h=>nomatch h),I.ok.hd,I.ok.frames,.inl rfl,λb hb=>⟨sn (fo b hb),λy c h=>(f2 b hb).2.2.2.2.1 y c (S.sub y c h)⟩,I.bs,
  Nat.le_trans I.ok.bsz I.sz,λb o e hb=>?_,λb hb=>stk b (f2 b hb).2.1 (f2 b hb).2.2.1,I.stack,I.qz⟩,
  rfl,I.bare,Un.kept keep,⟨m',hns,λi y v e1 e2 e3=>?_⟩,λy c h=>?_,I.hok.fresh (sw _),λy c h=>I.freeC y c (S.sub y c h),λp hp=>?_,I.hok.kept keep,?_⟩
 .rcases(f2 b hb).2.2.2.1 with z|z
  .exact I.ok.noex b o e z
  .exact absurd (pi (pi (v0 e) I.ok.bsz) z) (Nat.lt_irrefl _)
 .have hln:(tw xs).length=xs.length:=ci ..
  by_cases hlt:i<xs.length
  .rw[List.getElem?_append_left (by rw[hln];exact hlt)]at e2;unfold tw at e2;rw[io,lw hlt]at e2;cases e2
  .obtain⟨j,rfl⟩:∃ j,i=xs.length+j:=⟨i-xs.length,by omega⟩;have e1':fr[j]? =some y:=by
    have e1:(xs++fr)[xs.length+j]? =some y:=e1;rw[getElem?_append_right nofun,show xs.length+j-xs.length=j by omega]at e1;exact e1
   obtain⟨i,hi,hN,k1,k2⟩:=S.out j y e1';have e2':(iH U sel)[j]? =some (some v):=by
    rw[getElem?_append_right (by rw[hln];omega),hln,show xs.length+j-xs.length=j by omega]at e2;exact e2
   have e4:U[i]? =some (some v):=by
    unfold iH at e2';rw[io,hi]at e2';have e5:U.getD i none=some v:=Option.some.inj e2';rw[List.getD_eq_getElem?_getD]at e5;cases e6:U[i]? with
    |none=>rw[e6]at e5;cases e5
    |some z=>rw[e6]at e5;exact congrArg some e5
   obtain⟨m,hn,hl⟩:=I.loc;obtain⟨u,r,l⟩:=hl i y v hN e4 (.inr (.inl k1));refine⟨u,r,.inr ⟨.inl k2,?_⟩⟩;rcases l with⟨hk,_⟩|⟨_,c,hc,o,ho,hd⟩
   .have hk':X.env.scope.names.lookup y=some .local:=hk;rw[k1]at hk';cases hk'
   .obtain⟨c',hc'⟩:=S.has y (.inl k2);have:=(S.sub y c' hc').symm.trans hc;cases this;exact⟨c,hc',o,keep c o ho,hd⟩
 .obtain⟨v,o,ho,hd⟩:=I.cell y c (S.sub y c h);exact⟨v,o,keep c o ho,hd⟩
 .obtain⟨e,n,ne,nf,d⟩:=I.pin p (by simpa[gr] using hp);exact⟨keep p.1 p.2 e,n,sn (v0 e),stk p.1 ne nf,d⟩
 .show(tw xs++iH U sel).length=(xs++fr).length;unfold iH tw;simp[S.len]
def oA {elt iter tgt:Expr}{wi:TI}{tg:TG}{tc:TT}(hc:X.calm=true)(S:bK X scope cl xs fr sel)(hi:PI X tgt iter wi)
  (hg:∀ (s:Shared) (H:Hp) (fp:List Addr),PG (gr X scope cl (xs++fr) s H fp) tgt tg) (ht:∀ (s:Shared) (H:Hp) (fp:List Addr),Ll (gr X scope cl (xs++fr) s H fp) ifs tc)
  (he:∀ (s:Shared) (H:Hp) (fp:List Addr),PE (gr X scope cl (xs++fr) s H fp) elt te) (hs:∀ x,foldedSetIterable iter X.env x=pure x):PE X (.ListComp elt [⟨tgt,iter,ifs,0⟩] scope pos) (IX wi tg tc te xs sel):=by
 intro Y s U H Q I h;rw[eval_ListComp];refine wpAny_comprehension_free (use:=none) rfl hs S.clos S.kind S.names ?_;refine aD (hi Y s U H _ I h) λv s1 h1=>aD h1 λitv s2 h2=>?_
 obtain⟨it,fp,tn,J,H2,e,I2,T,qG,f2,h2⟩:=h2;subst e;refine wpAny_newObj_type ?_;have hD:H2 s2.heap.objs.size=none:=I2.hok.fresh (sw _);have I3:Inv X Y U (upd H2 s2.heap.objs.size (.lst [])) { s2 with heap:=s2.heap.push { cls:=.type "list",dict:=none,data:=.seq ([]:List Value).toArray } }:=
  I2.laid (t':=s2.toks) (λb u e=>ut _ e) (sw _) ⟨Nat.zero_le _,[],0,.nil,v4 _ rfl⟩
 have fo2:∀ b ∈ fp,b<s2.heap.objs.size:=λb hb=>by
  obtain⟨o,ho,_⟩:=T.obj _ _ qG b hb;exact v0 ho
 have f3:∀ b ∈ fp,jo X Y (upd H2 s2.heap.objs.size (.lst [])) b:=λb hb=>⟨by rw[aj (sn (fo2 b hb))];exact(f2 b hb).1,(f2 b hb).2⟩
 have st3:tn 0 (s2.heap.push { cls:=.type "list",dict:=none,data:=.seq ([]:List Value).toArray }):=T.keep _ _ _ qG λb hb o e=>ut _ e
 have fo3:∀ b ∈ fp,b<(s2.heap.push { cls:=.type "list",dict:=none,data:=.seq ([]:List Value).toArray }).objs.size:=λb hb=>by
  rw[Heap.size_push];exact Nat.lt_succ_of_lt (fo2 b hb)
 obtain⟨W,⟨m0,w0⟩,turn⟩:=h2 _ hD;generalize s2.heap.objs.size=D at*;generalize hs3:({ s2 with heap:=s2.heap.push { cls:=.type "list",dict:=none,data:=.seq ([]:List Value).toArray } }:Shared)=s3 at*;have st3':tn 0 s3.heap:=by rw[<-hs3];exact st3
 have fo3':∀ b ∈ fp,b<s3.heap.objs.size:=by rw[<-hs3];exact fo3
 refine wpAny_newFunctionEnv S.nocell (by intro y hy;simp at hy) (λh' hns hsb=>?_) S.kind;have keep:∀ b o,s3.heap.get? b=some o->h'.get? b=some o:=λb o e=>(hsb.2 b (sn (v0 e))).trans (ut _ e)
 have I4:=qP (tk:=s3.toks+([]:List (Str×Value)).length) S I3 f3 fo3' hns keep;have st4:tn 0 h':=T.keep _ _ _ st3' λb hb o e=>keep b o e
 have stat:∀ {H':Hp},(∀ b ∈ fp,H' b=none)->∀ b ∈ fp,jo (gr X scope cl (xs++fr) s3 (upd H2 D (.lst [])) fp) (X.pn++Y) H' b:=λ{H'} hn b hb=>
  ⟨hn b hb,sn (fo3' b hb),λz=>(nw.mp (I3.jy b z)).elim (f3 b hb).2.1 (f3 b hb).2.2.1,.inl hb,λy c hy=>(f3 b hb).2.2.2.2.1 y c (S.sub y c hy),λp hp=>(f3 b hb).2.2.2.2.2 p (by simpa[gr] using hp)⟩
 have loop:codeAny (model X.prog X.w) X.A (.compLoop (.ListComp elt [⟨tgt,iter,ifs,0⟩] scope pos) 0 (.ref it) (.ref D) (compEnvC scope cl s3.heap.objs.size X.env))
   (compPost (model X.prog X.w) X.A X.xe none (EP X Y U Q) (.ref D) s3.heap.objs.size) { s3 with heap:=h',toks:=s3.toks+([]:List (Str×Value)).length }:=by
  refine codeAny_loop rfl (λn s'=>∃ i σ' H',Inv (gr X scope cl (xs++fr) s3 (upd H2 D (.lst [])) fp) (X.pn++Y) σ' H' s'/\tn i s'.heap/\(∀ b ∈ fp,H' b=none)/\W i n σ' H') (λn s5 hI=>?_) m0 ⟨0,_,_,I4,st4,λb hb=>(f3 b hb).1,w0⟩;show wpAny _ _ ((compTurn (.ListComp elt [⟨tgt,iter,ifs,0⟩] scope pos) 0 (.ref it) (.ref D) (compEnvC scope cl s3.heap.objs.size X.env)).onRaise (λx=>do noteFrame x (compEnvC scope cl s3.heap.objs.size X.env);theTreesLotGoes x)) _ _ s5;refine wpAny_noted ?_;refine vo (ht s3 (upd H2 D (.lst [])) fp).1 ?_;obtain⟨i,σ5,H5,I5,st5,fr5,w5⟩:=hI;rcases turn i n σ5 H5 w5 with⟨stop,q⟩|⟨go,Nn,hN,step⟩
  .refine aD (T.done (gr X scope cl (xs++fr) s3 (upd H2 D (.lst [])) fp) rfl rfl rfl hc i _ s5 σ5 H5 _ I5 (stat fr5) st5 stop) λr s6 ⟨hr,I6⟩=>?_
   subst hr;obtain⟨m,hn,_⟩:=I6.loc;refine⟨m,hn,λh'' hs''=>⟨.ref D,H5,I3.BE (ch:=fp) I6.os (I6.base.sameBut hs'' (sw _)) (λb ob e=>?_) I6.bare λb hb=>⟨(f3 b hb).2.2.2.1,(f3 b hb).2.1,(f3 b hb).2.2.2.2.1,(f3 b hb).2.2.2.2.2⟩,rfl,q⟩⟩;refine(I6.hok b ob e).kH (λc w' hc' q'=>(hs''.2 c ?_).trans q') (λ_ q'=>q') λ_ _ q'=>q'
   have fC:H5 s3.heap.objs.size=none:=I6.free;intro z;rcases hc' with z2|z2
   .rw[z2]at z;rw[z,fC]at e;cases e
   .rw[z,fC]at z2;cases z2
  .have fin:∀ {σ8:St}{H10:Hp}{s10:Shared},Inv (gr X scope cl (xs++fr) s3 (upd H2 D (.lst [])) fp) (X.pn++Y) σ8 H10 s10/\tn (i+1) s10.heap/\(∀ b ∈ fp,H10 b=none)->Nn σ8 H10->∃ m',m'<n/\∃ i σ' H',Inv (gr X scope cl (xs++fr) s3 (upd H2 D (.lst [])) fp) (X.pn++Y) σ' H' s10/\tn i s10.heap/\(∀ b ∈ fp,H' b=none)/\W i m' σ' H':=λ⟨I,t,f⟩ nn=>by
    obtain⟨m',hm,w10⟩:=hN _ _ nn;exact⟨m',hm,i+1,_,_,I,t,f,w10⟩
   refine aD (T.item (gr X scope cl (xs++fr) s3 (upd H2 D (.lst [])) fp) rfl rfl rfl hc i _ s5 σ5 H5 _ I5 (stat fr5) st5 go) λr s6 ⟨u,hr,h6⟩=>?_
   subst hr;refine aD h6 λ_ s7 ⟨xv,H7,I7,r7,y7,st7,fr7⟩=>?_
   have I7':=I7.pinned (stat fr7) (T.obj _ _ st7);refine EB (hg s3 _ fp _ s7 σ5 H7 xv u _ I7' r7 (step xv _ y7)) λ_ s8 ⟨σ8,H8,I8,q8⟩=>?_
   refine EB ((ht s3 _ fp).2 _ s8 σ8 H8 _ I8 q8) λok s9 ⟨H9,I9,q9⟩=>?_
   have back:∀ {H10:Hp}{s10:Shared},Inv (gr X scope cl (xs++fr) s3 (upd H2 D (.lst [])) fp) _ σ8 H10 s10->Inv (gr X scope cl (xs++fr) s3 (upd H2 D (.lst [])) fp) (X.pn++Y) σ8 H10 s10/\tn (i+1) s10.heap/\(∀ b ∈ fp,H10 b=none):=λ{H10 s10} I10=>⟨I10.fP,T.keep _ _ _ st7 λb hb o e=>(I10.pin (b,o) (im _ (im _ (cg hb e)))).1,λb hb=>by
    obtain⟨o,e,d⟩:=T.obj _ _ st7 b hb;exact(I10.pin (b,o) (im _ (im _ (cg hb e)))).2.1⟩
   refine⟨λek=>?_,λek=>am ⟨rfl,fin (back I9) (q9.2 ek)⟩⟩;refine EB (he s3 _ fp _ s9 _ _ _ I9 (q9.1 ek)) λuv s10 ⟨vv,H10,I10,r10,zs,hz,hzl,n10⟩=>?_
   refine EB (jg (X:=gr X scope cl (xs++fr) s3 (upd H2 D (.lst [])) fp) _ s10 _ H10 (.ref D) [vv] (.ref D) [uv] (λ_ H'=>H'=upd H10 D (.lst (zs++[vv]))) I10 rfl (.cons r10 .nil) ⟨D,zs,vv,rfl,rfl,hz,hzl,rfl⟩) λ_ s11 ⟨_,H11,I11,_,e11⟩=>?_
   subst e11;exact am ⟨rfl,fin (back I11) n10⟩
 exact codeAny_compStart_list loop (T.self _ 0 _ _ _ st4 loop)
def vc {x:Str}{px:Pos}{H:Hp}(S:bK X scope cl [x] fr sel):PG (gr X scope cl ([x]++fr) s H fp) (.Name x px) (ie 0):=iy S.nd rfl (.inl (lookup_relabel_local (S.own x (mo ..)))) (.inr (lookup_relabel_local (S.own x (mo ..))))
abbrev Nr (wi:TI):TI:=λU H R=>∃ R0:It->Hp->Prop,wi U H R0/\∀ J H,R0 J H->R J H
def PI.up {tg iter:Expr}{wi:TI}(h:PI X tg iter wi):PI X tg iter (Nr wi):=λY s U H R I ⟨R0,q,m⟩=>
 aD (h Y s U H R0 I q) λv s1 h1=>wpAny_mono h1 (λitv s2 ⟨it,fp,tn,J,H',e,I,T,t0,f,r⟩=>⟨it,fp,tn,J,H',e,I,T,t0,f,m _ _ r⟩) λ_ _ e=>e
def zR {elt iter:Expr}{x:Str}{px:Pos}{wi:TI}(hc:X.calm=true)(S:bK X scope cl [x] fr sel)(hi:PI X (.Name x px) iter wi)
  (he:∀ (s:Shared) (H:Hp) (fp:List Addr),PE (gr X scope cl (x::fr) s H fp) elt te) (hs:∀ x,foldedSetIterable iter X.env x=pure x):PE X (.ListComp elt [⟨.Name x px,iter,[],0⟩] scope pos) (M7 wi te sel):=λY s U H Q I h=>
 oA (tg:=ie 0) hc S hi.up (λs H fp=>vc S) (λ_ _ _=>kZ) he hs Y s U H Q I ⟨_,h,λ_ _ q=>q.g⟩
end
section
variable {U:St}{H:Hp}{Q:VK}{te tl:TE}{ta:TA}{sel:List Nat}{σ₀ rest:St}{K:W.Frag}
end
def dZ {env:Env}:∀ {names:List (Str×NameKind)}{y:Str}{k':NameKind},(names.map λ(n,k)=>if(k ==NameKind.free&&env.scope.kind ==.function&&env.kindOf n ==some .cell) then(n,NameKind.cell) else(n,k)).lookup y=some k'->∃ k,(y,k) ∈ names/\(k'=k\/(k=.free/\k'=.cell))
 | [],_,_,h=>by simp at h
 |(n,k)::r,y,k',h=>by
  rw[map_cons,lookup_cons]at h
  by_cases hc:(k ==NameKind.free&&env.scope.kind ==.function&&env.kindOf n ==some .cell)=true
  .simp only[hc,if_true]at h
   by_cases e:y=n
   .subst e;simp at h;simp at hc;exact⟨k,mo,.inr ⟨hc.1.1,h.symm⟩⟩
   .rw[show(y ==n)=false from beq_eq_false_iff_ne.mpr e]at h;obtain⟨k2,m,q⟩:=dZ (env:=env) h;exact⟨k2,dL _ m,q⟩
  .rw[Bool.not_eq_true]at hc;simp only[hc,Bool.false_eq_true,if_false]at h
   by_cases e:y=n
   .subst e;simp at h;exact⟨k,mo,.inl h.symm⟩
   .simp only[show(y ==n)=false from beq_eq_false_iff_ne.mpr e]at h;obtain⟨k2,m,q⟩:=dZ (env:=env) h;exact⟨k2,dL _ m,q⟩
section
variable {K:W.Frag}
end
section
variable {K:W.Frag}{H:Hp}
end
section
variable {U:St}{H:Hp}{Q:VK}
end
abbrev notStar:Expr->Bool
 | .Starred ..=>false
 |_=>true
variable {es:List Expr}
def ag {e:Expr}{env:Env}(h:notStar e=true):bn (e::es) env=(false,eval e env)::bn es env:=by
 cases e<;>first|rfl|cases h
def iU {e:Expr}{t:TA}(ha:PE X e te)(hr:PA X es t)(h:notStar e=true:=by rfl):PA X (e::es) (EG te t):=Dx ha hr (ag h)
section
variable {X:Cx}{Y:NW}{U:St}{H:Hp}{s:Shared}{h':Heap}
def Inv.sZ {t':Nat}{ch:List Addr}{a:Addr}{o:HO}(I:Inv X Y U H s)(k:∀ b u,b ∉ ch->s.heap.get? b=some u->h'.get? b=some u) (hf:∀ b ∈ ch,jo X Y H b)
  (hp:s.heap.objs.size<=a) (new:aP X.prog X.w (upd H a o) h' a o):Inv X Y U (upd H a o) { s with heap:=h',toks:=t' }:=by
 have hn:H a=none:=I.hok.fresh hp;have nch:∀ b u,H b=some u->b ∉ ch:=λb u e z=>by rw[(hf b z).1]at e;cases e
 refine I.step (g':=s.gens) (d':=s.drawn) (ch:=ch) (λb hb=>?_) (λb o _ _ hc e _=>k b o hc e) (λb o _ _ hc e _=>⟨o.slots,k b o hc e⟩) (λb o hc e n=>?_)
  (λb o hc e=>⟨o,k b o hc e⟩) (λb xs e=>?_) (λb ob u e=>?_) (λb ps e=>?_) (λm hm=>?_) (λb u e=>?_) I.bare
 .obtain⟨_,f1,_,f3,f4,f5⟩:=hf b hb;exact⟨f3,f1,f4,f5⟩
 .rw[aj (sn (pi (v0 e) hp))];exact n
 .rw[aj (aX e hn)];exact e
 .rw[aj (aX e hn)];exact e
 .exact⟨#[],by rw[aj (aX e hn),e];simp⟩
 .obtain⟨o,es,ep,ho,r⟩:=hm;exact⟨o,es,ep,k _ o (λz=>(hf _ z).2.1 rfl) ho,r⟩
 .by_cases hb:b=a
  .subst hb;rw[aE]at e;cases e;exact new
  .rw[aj hb]at e;refine(I.hok b u e).kH (λc v hc q=>k c v ?_ q) (λc q=>by rw[aj (aX q hn)];exact q) λc xs q=>by rw[aj (aX q hn)];exact q
   rcases hc with rfl|hc
   .exact nch _ _ e
   .exact nch _ _ hc
end
abbrev Jl (l:Addr):It:=
 ⟨λi H=>∃ xs x,H l=some (.lst xs)/\xs[i]? =some x,λi H x H'=>∃ T y,H T=none/\x=.ref T/\H'=upd H T (.tup [.int i,y])/\∀ xs,H l=some (.lst xs)->xs[i]? =some y,λi H=>∃ xs,H l=some (.lst xs)/\xs.length<=i⟩
variable {elts:List Expr}
def xA {P:Program}{w:World}{K:W.Frag}{k:Nat}(l e it:Addr)(hei:e≠it):
  Turn P w K (.Tuple elts k pos) (Jl l) [e,it] e (λi h=>(∃ old,IsEnum h e it ((i:Nat):Int) old)/\h.IsListIter it l i) where
 mem:=by simp
 obj:=λi h st b hb=>by
  obtain⟨⟨old,he⟩,hit⟩:=st;rcases nw.mp hb with rfl|hb
  .exact⟨_,he,λv z=>by
    have z':Data.fields _=Data.cell v:=z;cases z'⟩
  .have e':b=it:=by simpa using hb
   subst e';obtain⟨o,e,c,d⟩:=hit;exact⟨o,e,λv z=>by rw[d]at z;cases z⟩
 keep:=λi h h' st k=>by
  obtain⟨⟨old,he⟩,hit⟩:=st;exact⟨⟨old,k e (by simp) _ he⟩,hit.at λo q=>k it (by simp) o q⟩
 item:=by
  intro X hP hw hK hc i Y s U H E I hf st hg;subst hP hw hK;obtain⟨xs,x,hq,hx⟩:=hg;obtain⟨⟨old,he⟩,hit⟩:=st;obtain⟨its,rv,p,hz⟩:=I.list (bb.of hq);obtain⟨u,hu,ru⟩:=rv.get hx;have heN:H e=none:=(hf e (by simp)).1;have hes:e≠s.heap.objs.size:=sn (v0 he);obtain⟨oi,hoi,_⟩:=id hit;have his:it≠s.heap.objs.size:=sn (v0 hoi);refine wpAny_pyNext_enum_item he hit p.isList (x:=u) (by simpa using hu) hei λh1 heo hit1 ht1 hz1 hk1=>?_
  have I1:Inv X Y U (upd H s.heap.objs.size (.tup [.int i,x])) { s with heap:=h1,toks:=s.toks+1 }:=
   I.sZ (ch:=[e,it]) (λb o hb q=>hk1 b o (λz=>hb (by simp[z])) (λz=>hb (by simp[z])) q) hf (sw _)
    ⟨fits (re rfl),[.int i s.toks,u],.cons ⟨_,rfl⟩ (.cons ru .nil),⟨_,ht1,rfl,_,rfl⟩⟩
  refine⟨_,rfl,wpAny_letOwnedTupleGo_enum heo λh2 he2 hs2=>?_⟩;obtain⟨f0,f1,f2,f3,f4,f5⟩:=hf e (by simp);have I2:=I1.turned (h':=h2) (t':=s.toks+1) (it:=e) (λb o hb q=>(hs2.2 b hb).trans q) (by rw[aj hes];exact heN) f1 f3 f4 f5;refine⟨.ref s.heap.objs.size,_,I2,rfl,⟨_,x,I.hok.fresh (sw _),rfl,rfl,λys hy=>?_⟩,⟨⟨_,by simpa using he2⟩,hit1.at λo q=>(hs2.2 it hei.symm).trans q⟩,λb hb=>?_⟩
  .rw[hq]at hy;cases hy;exact hx
  .have hb':b≠s.heap.objs.size:=by
    rcases nw.mp hb with rfl|hb
    .exact hes
    .have e':b=it:=by simpa using hb
     subst e';exact his
   rw[aj hb'];exact(hf b hb).1
 done:=by
  intro X hP hw hK hc i Y s U H E I hf st hg;subst hP hw hK;obtain⟨xs,hq,hx⟩:=hg;obtain⟨⟨old,he⟩,hit⟩:=st;obtain⟨its,rv,p,hz⟩:=I.list (bb.of hq);obtain⟨f0,f1,f2,f3,f4,f5⟩:=hf it (by simp);have hl:=rv.length;exact wpAny_pyNext_enum_end (I.ok.hd hc) he hit p.isList (by simp;omega) λh' eb=>⟨rfl,I.turned (t':=s.toks) (λb o hb q=>eb b o hb q) f0 f1 f3 f4 f5⟩
 self:=λ_ _ _ _ _ st h=>by
  obtain⟨⟨old,he⟩,hit⟩:=st;exact wpAny_pyIter_enum he h
def qk:bootBuiltins "enumerate"=some (.type "enumerate"):=by decide+kernel
abbrev Jh (ta:TA):TI:=λU H R=>ta U H λvs H1=>∃ l,vs=[.ref l]/\(∃ xs,H1 l=some (.lst xs))/\R (Jl l) H1
def Ci {k:Nat}{a:Expr}{ta:TA}{p pos':Pos}(hg:Gl X "enumerate") (hm:X.mg "enumerate"=none) (ha:PA X [a] ta) (hs:bn [a] X.env=[(false,eval a X.env)]:=by rfl):
  PI X (.Tuple elts k pos') (.Call (.Name "enumerate" p) [a] [] pos) (Jh ta):=by
 intro Y s U H R I h;refine Call_ (cW I hg hm qk (PyProof.Rows.callWith_type1 (aD (ha pos Y s U H _ I h) λus s1 ⟨vs,H1,I1,r1,q1⟩=>?_) hs rfl));obtain⟨l,e,⟨xs,hl⟩,q⟩:=q1;subst e;cases r1 with
 |cons r rr=>
  cases rr;cases r;obtain⟨z,its,n,r,hlen,e⟩:=I1.lN hl;refine call_enumerate_1 e λh' he hit hsz hk=>?_
  refine wpAny_pyIter_enum he ?_;refine⟨s1.heap.objs.size+1,[s1.heap.objs.size+1,s1.heap.objs.size],_,_,H1,rfl,I1.kept (t':=s1.toks) hk,xA l _ _ (Nat.succ_ne_self _),⟨⟨_,he⟩,hit⟩,λb hb=>?_,q⟩;have hb':s1.heap.objs.size<=b:=by
   rcases nw.mp hb with rfl|hb
   .exact Nat.le_succ _
   .have e':b=s1.heap.objs.size:=by simpa using hb
    exact Nat.le_of_eq e'.symm
  exact I1.A0 hb' (I1.hok.fresh hb')
section
variable {g:TG}{tb:TS}{D:Ends}{U:St}{H:Hp}{ta:TA}
end
section
variable {X:Cx}
end
section
variable {K:W.Frag}{r:V->List V->Hp->VK->Prop}{to:TE}{t:TA}{U:St}{H:Hp}{Q:VK}
end
section
variable {H H1 H2:Hp}{p h c:Addr}{o:HO}{m:Int}
end
section
variable {H H':Hp}{xs ys:List V}{f:Nat->Int×Int}
end
section
variable {X:Cx}{a b c d:Expr}{ta tb tc td:TE}{pos:Pos}
abbrev Cn (r r' r2:R2)(ta tb tc td:TE):TE:=λU H Q=>ta U H λx H1=>tb U H1 λy H2=>r x y H2 λz H3=>tG z H3 λk H3=>
 (if k=true then tc U H3 λw' H4=>r' y w' H4 λz' H5=>tG z' H5 λk' H5=>(if k'=true then td U H5 λw2 H6=>r2 w' w2 H6 Q else Q (.bl false) H5) else Q (.bl false) H3)
def x6 {op op' op2:CmpOp}{r r' r2:R2}(ho:cX X (compareOp op) r)(ho':cX X (compareOp op') r')(ho2:cX X (compareOp op2) r2)(ha:PE X a ta)(hb:PE X b tb)(hc:PE X c tc)(hd:PE X d td)
  (hm:lastMarks [op,op',op2] [b,c,d]=false:=by with_unfolding_all rfl):PE X (.Compare a [op,op',op2] [b,c,d] pos) (Cn r r' r2 ta tb tc td):=by
 intro Y s U H Q I h;refine Compare_chain (aD (ha Y s U H _ I h) λv s1 ⟨x,H1,I1,r1,q1⟩=>chain_link (aD (hb Y s1 U H1 _ I1 q1) λu s2 ⟨y,H2,I2,r2',q2⟩=>
  aD (ho Y s2 U H2 x y v u _ I2 r1 r2' q2) λd s3 ⟨z,H3,I3,r3,k,e,q3⟩=>?_)) hm
 subst e;cases r3;refine bi ?_;cases k with
 |false=>exact ite_ff ⟨.bl false,H3,I3,rfl,q3⟩
 |true=>
  refine ite_tt (chain_link (aD (hc Y s3 U H3 _ I3 q3) λw' s4 ⟨z',H4,I4,r4,q4⟩=>aD (ho' Y s4 U H4 y z' u w' _ I4 r2' r4 q4) λd2 s5 ⟨z2,H5,I5,r5,k2,e2,q5⟩=>?_));subst e2;cases r5;refine bi ?_;cases k2 with
  |false=>exact ite_ff ⟨.bl false,H5,I5,rfl,q5⟩
  |true=>exact ite_tt (chain_last (aD (hd Y s5 U H5 _ I5 q5) λw2 s6 ⟨z3,H6,I6,r6,q6⟩=>ho2 Y s6 U H6 z' z3 w' w2 Q I6 r4 r6 q6))
end
section
variable {K:W.Frag}{U:St}{H:Hp}{Q:VK}{ta tb tc td tv:TE}{t:TA}{f m:Str}{D:Ends}{C:Addr}{sp:Sp}{dvs:List V}{E:XK}
end
section
variable {g:TG}{tb:TS}{D:Ends}{U:St}{H:Hp}{ta:TA}
end
section
variable {C:Addr}{H H':Hp}{S D h c:Addr}{rs:List Rec}{r:Rec}
end
section
variable {X:Cx}
end
end L2
namespace L2
end L2
namespace L2
open PySem PySem.Spec PyProof.Rows
section
variable {C:Addr}{H HF:Hp}{S D h c:Addr}{rs:List Rec}{r':Rec}
end
section
variable {X:Cx}
end
structure LW (K:W.Frag) (C:Addr):Prop where
 ha:W.findIn K (.ref C) "__class__"=some (some (.builtin "object.__class__"))
 hn:W.specialIn K (.builtin "object.__class__") "__get__"=some (some (.builtin "getset_descriptor.__get__"))
 htk:W.takesIn K (.builtin "object.__class__")=some true
 hm:W.mroIn K C (.type "object")=some true
end L2
namespace L2
open PySem PySem.Spec PySem.W PyProof.Rows
abbrev bC (tp:Bool)(h:Heap)(j b:Addr)(k:Nat):Prop:=match tp with
 |true=>h.IsTupleIter j b k
 |false=>h.IsListIter j b k
abbrev bW (tp:Bool)(h:Heap)(b:Addr)(xs:Array Value):Prop:=match tp with
 |true=>h.IsTuple b xs
 |false=>h.IsList b xs
variable {tp:Bool}{h:Heap}{k:Nat}
def bC.to {h':Heap}{j b:Addr}(g:bC tp h j b k)(e:∀ o,h.get? j=some o->h'.get? j=some o):bC tp h' j b k:=by
 cases tp
 .obtain⟨o,e1,r⟩:=(show h.IsListIter j b k from g);exact⟨o,e o e1,r⟩
 .obtain⟨o,e1,r⟩:=(show h.IsTupleIter j b k from g);exact⟨o,e o e1,r⟩
def bW.to {h':Heap}{b:Addr}{xs:Array Value}(g:bW tp h b xs)(e:∀ o,h.get? b=some o->h'.get? b=some o):bW tp h' b xs:=by
 cases tp
 .obtain⟨o,e1,r⟩:=(show h.IsList b xs from g);exact⟨o,e o e1,r⟩
 .obtain⟨o,e1,r⟩:=(show h.IsTuple b xs from g);exact⟨o,e o e1,r⟩
def bC.lt {tp:Bool}{h:Heap}{j b:Addr}{k:Nat}(g:bC tp h j b k):j<h.objs.size:=by
 cases tp
 .obtain⟨o,e1,r⟩:=(show h.IsListIter j b k from g);exact v0 e1
 .obtain⟨o,e1,r⟩:=(show h.IsTupleIter j b k from g);exact v0 e1
def bW.lt {tp:Bool}{h:Heap}{b:Addr}{xs:Array Value}(g:bW tp h b xs):b<h.objs.size:=by
 cases tp
 .obtain⟨o,e1,r⟩:=(show h.IsList b xs from g);exact v0 e1
 .obtain⟨o,e1,r⟩:=(show h.IsTuple b xs from g);exact v0 e1
variable {Q:Option Value->Shared->Prop}{c:Addr}{T:Int}{fb:Bool}{oT:Obj}{elts:List Expr}{pos:Pos}
section
variable {prog:Program}{w:World}{A:Around}{E:NV}{s:Shared}
def HG {j b:Addr}{xs:Array Value}{x:Value}{Q:NV}(g:s.heap.IsTupleIter j b k)(t:s.heap.IsTuple b xs)(hx:xs[k]? =some x)
  (q:∀ h',h'.IsTupleIter j b (k+1)->Heap.SameBut j s.heap h'->Q x { s with heap:=h' }):wpAny (model prog w) A (Builtin.SmallTypes.nextOf (.ref j)) Q E s:=by
 obtain⟨o1,e1,c1,d1⟩:=id g;obtain⟨o2,e2,_,n2,d2⟩:=t;unfold Builtin.SmallTypes.nextOf;refine ad (wpAny_callSpecial?_slot (name:=Str.ofString "__next__") g.typeIs F.slot_tuple_iterator_next (wpAny_call_entry F.slot_tuple_iterator_next g.typeIs F.entry_tuple_iterator_next ?_ (F.args_tuple_iterator_next_1 _)));show wpAny _ _ (field (.ref j) 0 >>= _) _ _ s;refine ad (ap e1 d1 (x:=.ref b) rfl ?_);show wpAny _ _ (if(Value.ref b ==Value.none)=true then _ else _) _ _ s;rw[if_neg (show ¬ ((Value.ref b ==Value.none)=true) from Bool.false_ne_true)];show wpAny _ _ (field (.ref j) 1 >>= _) _ _ s;refine ad (ap e1 d1 (x:=.int k 0) rfl ?_);show wpAny _ _ (seqItems? (.ref b) >>= _) _ _ s;refine ad (wpAny_seqItems e2 d2 ?_);simp only[sK,hx];refine ad (wpAny_setField e1 d1 (by simp) (am ⟨x,rfl,am (q _ ?_ (Heap.SameBut.update ..))⟩));refine⟨_,Heap.get?_update_self _ e1 (Obj.isFreed_of_fields (Obj.data_mapFields d1 _)),(Obj.cls_mapFields ..).trans c1,?_⟩;rw[Obj.data_mapFields d1];simp[rawInt]
def Cv {j b:Addr}{xs:Array Value}{Q:NV}(hh:A.handled=none)(g:s.heap.IsTupleIter j b k)(t:s.heap.IsTuple b xs)(hx:xs[k]? =none)
  (q:∀ h' e,Heap.ExtBut j s.heap h'->(∃ o,h'.get? e=some o/\o.cls=.type "StopIteration")->E (.ref e) { s with heap:=h' }):wpAny (model prog w) A (Builtin.SmallTypes.nextOf (.ref j)) Q E s:=by
 obtain⟨o1,e1,c1,d1⟩:=id g;obtain⟨o2,e2,_,n2,d2⟩:=t;unfold Builtin.SmallTypes.nextOf;refine ad (wpAny_callSpecial?_slot (name:=Str.ofString "__next__") g.typeIs F.slot_tuple_iterator_next (wpAny_call_entry F.slot_tuple_iterator_next g.typeIs F.entry_tuple_iterator_next ?_ (F.args_tuple_iterator_next_1 _)));show wpAny _ _ (field (.ref j) 0 >>= _) _ _ s;refine ad (ap e1 d1 (x:=.ref b) rfl ?_);show wpAny _ _ (if(Value.ref b ==Value.none)=true then _ else _) _ _ s;rw[if_neg (show ¬ ((Value.ref b ==Value.none)=true) from Bool.false_ne_true)];show wpAny _ _ (field (.ref j) 1 >>= _) _ _ s;refine ad (ap e1 d1 (x:=.int k 0) rfl ?_);show wpAny _ _ (seqItems? (.ref b) >>= _) _ _ s;refine ad (wpAny_seqItems e2 d2 ?_);simp only[sK,hx];refine ad (wpAny_rule (ad (wpAny_setField e1 d1 (by simp) ?_)));show wpAny _ _ (newExc (.type "StopIteration") [] >>= _) _ _ _;refine ad ?_;simp only[newExc,newTuple];refine ad (wpAny_newObj_type ?_ (by size_fits));refine ad (m:=firstArgMember _ _) (wpAny_of_eq (a:=Value.none) (by first|rfl|(simp only[firstArgMember];rfl)) ?_);refine wpAny_newObj_type ?_ (by size_fits);simp only[raiseNew];refine ad (wpAny_handled ?_);first|rw[show A.in1.handled=none from hh]|rw[hh]
 refine ad (am (wpAny_throw ?_));exact q _ _ (((Heap.SameBut.update ..).extBut.push _).push _) ⟨_,v4 _ rfl,rfl⟩
def fV {j b:Addr}{xs:Array Value}{x:Value}{Q:NV}(g:bC tp s.heap j b k)(t:bW tp s.heap b xs)(hx:xs[k]? =some x)
  (q:∀ h',bC tp h' j b (k+1)->Heap.SameBut j s.heap h'->Q x { s with heap:=h' }):wpAny (model prog w) A (Builtin.SmallTypes.nextOf (.ref j)) Q E s:=by
 cases tp
 .exact wpAny_nextOf_list_item g t hx q
 .exact HG g t hx q
def pZ {j b:Addr}{xs:Array Value}{Q:NV}(hh:A.handled=none)(g:bC tp s.heap j b k)(t:bW tp s.heap b xs)(hx:xs[k]? =none)
  (q:∀ h' e,Heap.ExtBut j s.heap h'->(∃ o,h'.get? e=some o/\o.cls=.type "StopIteration")->E (.ref e) { s with heap:=h' }):wpAny (model prog w) A (Builtin.SmallTypes.nextOf (.ref j)) Q E s:=by
 cases tp
 .exact wpAny_nextOf_list_end hh g t hx q
 .exact Cv hh g t hx q
@[reducible]def bZ (h:Heap) (z TI TO:Addr) (f0 f1:Value):Prop:=h.get? z=some { cls:=.type "zip",dict:=none,data:=.fields #[f0,f1,.bool false,.ref TI,.ref TO],slots:=#[] }
variable {z TI TO i1 i2 l1 l2:Addr}{k1 k2:Nat}{tp1 tp2:Bool}{xs ys:Array Value}{x y a b f1:Value}
def wQ (D:ZipApart z TI TO i1 i2 l1 l2)(hz:bZ s.heap z TI TO .none f1)(hI:IsPair s.heap TI (.ref i1) (.ref i2))(hO:IsPair s.heap TO a b)
  (g1:bC tp1 s.heap i1 l1 k1) (g2:bC tp2 s.heap i2 l2 k2) (t1:bW tp1 s.heap l1 xs) (t2:bW tp2 s.heap l2 ys) (hx:xs[k1]? =some x) (hy:ys[k2]? =some y)
  (q:∀ h',bZ h' z TI TO (rawInt s.heap.objs.size) (.bool false)->IsPair h' TO x y->bC tp1 h' i1 l1 (k1+1)->bC tp2 h' i2 l2 (k2+1)->IsPair h' s.heap.objs.size x y->h'.objs.size=s.heap.objs.size+1->
   (∀ c o,c≠z->c≠TO->c≠i1->c≠i2->s.heap.get? c=some o->h'.get? c=some o)->Q (some (.ref s.heap.objs.size)) { s with heap:=h' }):wpAny (model prog w) A (pyNext (.ref z)) Q E s:=by
 have hZ:s.TypeIs (.ref z) "zip":=⟨_,hz,rfl⟩;unfold pyNext;refine ad (wpAny_attempt (wpAny_callSpecial?_slot (name:=Str.ofString "__next__") hZ F.slot_zip_next (wpAny_call_entry F.slot_zip_next hZ F.entry_zip_next ?_ (F.args_zip_next_1 _))));show wpAny _ _ (field (.ref z) 2 >>= _) _ _ _;refine ad (ap (x:=.bool false) hz rfl rfl ?_);show wpAny _ _ (field (.ref z) 3 >>= _) _ _ _;refine ad (ap (x:=.ref TI) hz rfl rfl ?_);refine ad (wpAny_seqItems hI rfl ?_);show wpAny _ _ (Builtin.SmallTypes.ownedTupleIsFree (.ref z) >>= _) _ _ _;refine ad ?_;unfold Builtin.SmallTypes.ownedTupleIsFree;refine ad (ap (x:=.none) hz rfl rfl (am ?_));simp only[if_true];refine ad (wpAny_rule ?_);refine ad (ap (x:=.ref TO) hz rfl rfl ?_);refine ad (wpAny_setField_rec hz (by simp) λp1 z1 b1=>?_)
 replace z1:bZ p1 z TI TO .ellipsis f1:=z1
 refine ad ?_;simp only[List.zipIdx_cons,List.zipIdx_nil,forIn_cons,forIn_nil];refine ad (ad (wpAny_onRaise ?_));show wpAny _ _ (Builtin.SmallTypes.nextOf (.ref i1) >>= _) _ _ _;refine ad (fV (g1.to λo e=>b1.extBut _ o D.i1z e) (t1.to λo e=>b1.extBut _ o D.l1z e) hx λp2 g1b b2=>am ?_);have hO2:IsPair p2 TO a b:=b2.extBut _ _ D.TOi1 (b1.extBut _ _ D.TOz hO);refine ad (wpAny_seqItems hO2 rfl ?_);refine ad (wpAny_updateSeq_pair hO2 λp3 hO3 b3=>?_)
 replace hO3:IsPair p3 TO x b:=hO3
 refine ad (wpAny_letGo (am ?_));refine ad (ad (wpAny_onRaise ?_));show wpAny _ _ (Builtin.SmallTypes.nextOf (.ref i2) >>= _) _ _ _;refine ad (fV (g2.to λo e=>b3.extBut _ o D.TOi2.symm (b2.extBut _ o D.i12.symm (b1.extBut _ o D.i2z e))) (t2.to λo e=>b3.extBut _ o D.l2TO (b2.extBut _ o D.l2i1 (b1.extBut _ o D.l2z e))) hy λp4 g2b b4=>am ?_);have hO4:IsPair p4 TO x b:=b4.extBut _ _ D.TOi2 hO3;refine ad (wpAny_seqItems hO4 rfl ?_);refine ad (wpAny_updateSeq_pair hO4 λp5 hO5 b5=>?_)
 replace hO5:IsPair p5 TO x y:=hO5
 refine ad (wpAny_letGo (am (am ?_)));refine ad (wpAny_seqItems hO5 rfl ?_);refine ad (wpAny_newTuple ?_);have hsz:p5.objs.size=s.heap.objs.size:=by rw[b5.1,b4.1,b3.1,b2.1,b1.1]
 have z5:bZ p5 z TI TO .ellipsis f1:=b5.extBut _ _ D.TOz.symm (b4.extBut _ _ D.i2z.symm (b3.extBut _ _ D.TOz.symm (b2.extBut _ _ D.i1z.symm z1)));have k5:∀ c o,c≠z->c≠TO->c≠i1->c≠i2->s.heap.get? c=some o->p5.get? c=some o:=λc o n1 n2 n3 n4 e=>b5.extBut _ _ n2 (b4.extBut _ _ n4 (b3.extBut _ _ n2 (b2.extBut _ _ n3 (b1.extBut _ _ n1 e))))
 have g15:bC tp1 p5 i1 l1 (k1+1):=g1b.to λo e=>b5.extBut _ o D.TOi1.symm (b4.extBut _ o D.i12 (b3.extBut _ o D.TOi1.symm e))
 have g25:bC tp2 p5 i2 l2 (k2+1):=g2b.to λo e=>b5.extBut _ o D.TOi2.symm e
 have zlt:z<p5.objs.size:=v0 z5;show wpAny _ _ (Builtin.SmallTypes.ownedTupleHandOut (.ref z) (.ref p5.objs.size) >>= _) _ _ _;refine ad ?_;unfold Builtin.SmallTypes.ownedTupleHandOut;have z6:bZ (p5.push { cls:=.type "tuple",data:=.seq #[x,y] }) z TI TO .ellipsis f1:=ut _ z5;refine ad (wpAny_setField_rec z6 (by simp) λp7 z7 b7=>?_)
 replace z7:bZ p7 z TI TO (rawInt p5.objs.size) f1:=z7
 refine wpAny_setField_rec z7 (by simp) λp8 z8 b8=>?_
 replace z8:bZ p8 z TI TO (rawInt p5.objs.size) (.bool false):=z8
 have up:∀ c o,c≠z->p5.get? c=some o->p8.get? c=some o:=λc o n1 e=>b8.extBut _ _ n1 (b7.extBut _ _ n1 (ut _ e))
 have hT:IsPair p8 p5.objs.size x y:=b8.extBut _ _ (Nat.ne_of_gt zlt) (b7.extBut _ _ (Nat.ne_of_gt zlt) (v4 _ rfl));have h8:p8.objs.size=p5.objs.size+1:=by rw[b8.1,b7.1,Heap.size_push]
 rw[hsz]at z8 hT h8;refine am ⟨_,rfl,?_⟩;rw[hsz];exact am (q p8 z8 (up _ _ D.TOz hO5) (g15.to λo e=>up _ o D.i1z e) (g25.to λo e=>up _ o D.i2z e) hT h8 λc o n1 n2 n3 n4 e=>up c o n1 (k5 c o n1 n2 n3 n4 e))
def G3 {Q:Fin->Shared->Prop}(hh:A.handled=none)(D:ZipApart z TI TO i1 i2 l1 l2)(hz:bZ s.heap z TI TO .none f1)(hI:IsPair s.heap TI (.ref i1) (.ref i2))(hO:IsPair s.heap TO a b)
  (g1:bC tp1 s.heap i1 l1 k1) (g2:bC tp2 s.heap i2 l2 k2) (t1:bW tp1 s.heap l1 xs) (t2:bW tp2 s.heap l2 ys) (hx:xs[k1]? =none\/ys[k2]? =none)
  (q:∀ h' e,(∀ c o,c≠z->c≠TO->c≠i1->c≠i2->s.heap.get? c=some o->h'.get? c=some o)->(∃ o,h'.get? e=some o/\o.cls=.type "StopIteration")->E (.ref e) { s with heap:=h' }):
  wpAny (model prog w) A (Builtin.«zip.__next__» ⟨[.ref z],[]⟩) Q E s:=by
 show wpAny _ _ (field (.ref z) 2 >>= _) _ _ _;refine ad (ap (x:=.bool false) hz rfl rfl ?_);show wpAny _ _ (field (.ref z) 3 >>= _) _ _ _;refine ad (ap (x:=.ref TI) hz rfl rfl ?_);refine ad (wpAny_seqItems hI rfl ?_);show wpAny _ _ (Builtin.SmallTypes.ownedTupleIsFree (.ref z) >>= _) _ _ _;refine ad ?_;unfold Builtin.SmallTypes.ownedTupleIsFree;refine ad (ap (x:=.none) hz rfl rfl (am ?_));simp only[if_true];refine ad (wpAny_rule ?_);refine ad (ap (x:=.ref TO) hz rfl rfl ?_);refine ad (wpAny_setField_rec hz (by simp) λp1 z1 b1=>?_)
 replace z1:bZ p1 z TI TO .ellipsis f1:=z1
 refine ad ?_;simp only[List.zipIdx_cons,List.zipIdx_nil,forIn_cons,forIn_nil];refine ad (ad (wpAny_onRaise ?_));show wpAny _ _ (Builtin.SmallTypes.nextOf (.ref i1) >>= _) _ _ _;cases e1:xs[k1]? with
 |none=>
  refine ad (pZ hh (g1.to λo e=>b1.extBut _ o D.i1z e) (t1.to λo e=>b1.extBut _ o D.l1z e) e1 λp2 e b2 he=>?_);obtain⟨oe,ho,hc⟩:=he;have z2:bZ p2 z TI TO .ellipsis f1:=b2 _ _ D.i1z.symm z1;have ne:e≠z:=λn=>by subst n;rw[z2]at ho;cases ho;simp at hc
  exact wpAny_setField_rec z2 (by simp) λp3 _ b3=>q p3 e (λc o n1 _ n3 _ v=>b3.extBut _ _ n1 (b2 _ _ n3 (b1.extBut _ _ n1 v))) ⟨oe,b3.extBut _ _ ne ho,hc⟩
 |some x=>
  have e2:ys[k2]? =none:=by rcases hx with h|h;(rw[e1]at h;cases h);exact h
  refine ad (fV (g1.to λo e=>b1.extBut _ o D.i1z e) (t1.to λo e=>b1.extBut _ o D.l1z e) e1 λp2 g1b b2=>am ?_);have hO2:IsPair p2 TO a b:=b2.extBut _ _ D.TOi1 (b1.extBut _ _ D.TOz hO);refine ad (wpAny_seqItems hO2 rfl ?_);refine ad (wpAny_updateSeq_pair hO2 λp3 hO3 b3=>?_);refine ad (wpAny_letGo (am ?_));refine ad (ad (wpAny_onRaise ?_));show wpAny _ _ (Builtin.SmallTypes.nextOf (.ref i2) >>= _) _ _ _;refine ad (pZ hh (g2.to λo e=>b3.extBut _ o D.TOi2.symm (b2.extBut _ o D.i12.symm (b1.extBut _ o D.i2z e))) (t2.to λo e=>b3.extBut _ o D.l2TO (b2.extBut _ o D.l2i1 (b1.extBut _ o D.l2z e))) e2 λp4 e b4 he=>?_);obtain⟨oe,ho,hc⟩:=he;have z4:bZ p4 z TI TO .ellipsis f1:=b4 _ _ D.i2z.symm (b3.extBut _ _ D.TOz.symm (b2.extBut _ _ D.i1z.symm z1));have ne:e≠z:=λn=>by subst n;rw[z4]at ho;cases ho;simp at hc
  exact wpAny_setField_rec z4 (by simp) λp5 _ b5=>q p5 e (λc o n1 n2 n3 n4 v=>b5.extBut _ _ n1 (b4 _ _ n4 (b3.extBut _ _ n2 (b2.extBut _ _ n3 (b1.extBut _ _ n1 v))))) ⟨oe,b5.extBut _ _ ne ho,hc⟩
def su {Q:Option Obj->Shared->Prop}(h:Q (s.heap.get? c) s):wpAny (model prog w) A (loadIfAlive c) Q E s:=λ_ _ _=>h
variable {t:Tok}
def rF {Q:Bool->Shared->Prop}(hz:bZ s.heap z TI TO (.int T t) (.bool fb))(hT:s.heap.get? T.toNat=some oT)(q:∀ h',bZ h' z TI TO (.int T t) (.bool true)->Heap.SameBut z s.heap h'->Q false { s with heap:=h' }):
  wpAny (model prog w) A (Builtin.SmallTypes.ownedTupleIsFree (.ref z)) Q E s:=by
 unfold Builtin.SmallTypes.ownedTupleIsFree;refine ad (ap (x:=.int T t) hz rfl rfl ?_);refine ad (su ?_);rw[hT];refine ad (ap (x:=.bool fb) hz rfl rfl ?_);cases fb
 .refine ad (wpAny_setField_rec hz (by simp) λp1 z1 b1=>am ?_);exact q p1 z1 b1
 .exact ad (am (am (q s.heap hz (Heap.SameBut.refl ..))))
def Eh (D:ZipApart z TI TO i1 i2 l1 l2)(hz:bZ s.heap z TI TO (.int T t) (.bool fb))(hT:s.heap.get? T.toNat=some oT)(hI:IsPair s.heap TI (.ref i1) (.ref i2))
  (g1:bC tp1 s.heap i1 l1 k1) (g2:bC tp2 s.heap i2 l2 k2) (t1:bW tp1 s.heap l1 xs) (t2:bW tp2 s.heap l2 ys) (hx:xs[k1]? =some x) (hy:ys[k2]? =some y)
  (q:∀ h',bZ h' z TI TO (.int T t) (.bool true)->bC tp1 h' i1 l1 (k1+1)->bC tp2 h' i2 l2 (k2+1)->IsPair h' s.heap.objs.size x y->h'.objs.size=s.heap.objs.size+1->
   (∀ c o,c≠z->c≠i1->c≠i2->s.heap.get? c=some o->h'.get? c=some o)->Q (some (.ref s.heap.objs.size)) { s with heap:=h' }):wpAny (model prog w) A (pyNext (.ref z)) Q E s:=by
 have hZ:s.TypeIs (.ref z) "zip":=⟨_,hz,rfl⟩;unfold pyNext;refine ad (wpAny_attempt (wpAny_callSpecial?_slot (name:=Str.ofString "__next__") hZ F.slot_zip_next (wpAny_call_entry F.slot_zip_next hZ F.entry_zip_next ?_ (F.args_zip_next_1 _))));show wpAny _ _ (field (.ref z) 2 >>= _) _ _ _;refine ad (ap (x:=.bool false) hz rfl rfl ?_);show wpAny _ _ (field (.ref z) 3 >>= _) _ _ _;refine ad (ap (x:=.ref TI) hz rfl rfl ?_);refine ad (wpAny_seqItems hI rfl ?_);show wpAny _ _ (Builtin.SmallTypes.ownedTupleIsFree (.ref z) >>= _) _ _ _;refine ad (rF hz hT λp1 z1 b1=>?_);simp only[Bool.false_eq_true,if_false];simp only[List.forIn_toArray,forIn_cons,forIn_nil];refine ad (ad (ad (bd ?_)));show wpAny _ _ (Builtin.SmallTypes.nextOf (.ref i1) >>= _) _ _ _;refine ad (fV (g1.to λo e=>b1.extBut _ o D.i1z e) (t1.to λo e=>b1.extBut _ o D.l1z e) hx λp2 g1b b2=>am (am ?_));dsimp only;refine ad (ad (bd ?_));show wpAny _ _ (Builtin.SmallTypes.nextOf (.ref i2) >>= _) _ _ _;refine ad (fV (g2.to λo e=>b2.extBut _ o D.i12.symm (b1.extBut _ o D.i2z e)) (t2.to λo e=>b2.extBut _ o D.l2i1 (b1.extBut _ o D.l2z e)) hy λp3 g2b b3=>am (am (am ?_)));dsimp only;refine ad (wpAny_newTuple ?_ (hsz:=fits (re rfl)));have hsz:p3.objs.size=s.heap.objs.size:=by rw[b3.1,b2.1,b1.1]
 refine am ⟨_,rfl,?_⟩;have z3:bZ p3 z TI TO (.int T t) (.bool true):=b3.extBut _ _ D.i2z.symm (b2.extBut _ _ D.i1z.symm z1);rw[hsz];refine am (q _ (ut _ z3) (g1b.to λo e=>ut _ (b3.extBut _ o D.i12 e)) (g2b.to λo e=>ut _ e) (by rw[<-hsz];exact v4 _ rfl) (by rw[Heap.size_push,hsz]) λc o n1 n2 n3 e=>?_);exact ut _ (b3.extBut _ _ n3 (b2.extBut _ _ n2 (b1.extBut _ _ n1 e)))
def zZ {Q:Fin->Shared->Prop}(hh:A.handled=none)(D:ZipApart z TI TO i1 i2 l1 l2)(hz:bZ s.heap z TI TO (.int T t) (.bool fb))(hT:s.heap.get? T.toNat=some oT)(hI:IsPair s.heap TI (.ref i1) (.ref i2))
  (g1:bC tp1 s.heap i1 l1 k1) (g2:bC tp2 s.heap i2 l2 k2) (t1:bW tp1 s.heap l1 xs) (t2:bW tp2 s.heap l2 ys) (hx:xs[k1]? =none\/ys[k2]? =none)
  (q:∀ h' e,(∀ c o,c≠z->c≠i1->c≠i2->s.heap.get? c=some o->h'.get? c=some o)->(∃ o,h'.get? e=some o/\o.cls=.type "StopIteration")->E (.ref e) { s with heap:=h' }):
  wpAny (model prog w) A (Builtin.«zip.__next__» ⟨[.ref z],[]⟩) Q E s:=by
 show wpAny _ _ (field (.ref z) 2 >>= _) _ _ _;refine ad (ap (x:=.bool false) hz rfl rfl ?_);show wpAny _ _ (field (.ref z) 3 >>= _) _ _ _;refine ad (ap (x:=.ref TI) hz rfl rfl ?_);refine ad (wpAny_seqItems hI rfl ?_);show wpAny _ _ (Builtin.SmallTypes.ownedTupleIsFree (.ref z) >>= _) _ _ _;refine ad (rF hz hT λp1 z1 b1=>?_);simp only[Bool.false_eq_true,if_false];simp only[List.forIn_toArray,forIn_cons,forIn_nil];refine ad (ad (ad (bd ?_)));show wpAny _ _ (Builtin.SmallTypes.nextOf (.ref i1) >>= _) _ _ _;cases e1:xs[k1]? with
 |none=>exact ad (pZ hh (g1.to λo e=>b1.extBut _ o D.i1z e) (t1.to λo e=>b1.extBut _ o D.l1z e) e1 λp2 e b2 he=>q p2 e (λc o n1 n2 n3 v=>b2 _ _ n2 (b1.extBut _ _ n1 v)) he)
 |some x=>
  have e2:ys[k2]? =none:=by rcases hx with h|h;(rw[e1]at h;cases h);exact h
  refine ad (fV (g1.to λo e=>b1.extBut _ o D.i1z e) (t1.to λo e=>b1.extBut _ o D.l1z e) e1 λp2 g1b b2=>am (am ?_));dsimp only;refine ad (ad (bd ?_));show wpAny _ _ (Builtin.SmallTypes.nextOf (.ref i2) >>= _) _ _ _;exact ad (pZ hh (g2.to λo e=>b2.extBut _ o D.i12.symm (b1.extBut _ o D.i2z e)) (t2.to λo e=>b2.extBut _ o D.l2i1 (b1.extBut _ o D.l2z e)) e2 λp4 e b4 he=>q p4 e (λc o n1 n2 n3 v=>b4 _ _ n3 (b2.extBut _ _ n2 (b1.extBut _ _ n1 v))) he)
def Ad (hh:A.handled=none)(D:ZipApart z TI TO i1 i2 l1 l2)(hz:bZ s.heap z TI TO .none f1)(hI:IsPair s.heap TI (.ref i1) (.ref i2))(hO:IsPair s.heap TO a b)
  (g1:bC tp1 s.heap i1 l1 k1) (g2:bC tp2 s.heap i2 l2 k2) (t1:bW tp1 s.heap l1 xs) (t2:bW tp2 s.heap l2 ys) (hx:xs[k1]? =none\/ys[k2]? =none)
  (q:∀ h',(∀ c o,c≠z->c≠TO->c≠i1->c≠i2->s.heap.get? c=some o->h'.get? c=some o)->Q none { s with heap:=h' }):wpAny (model prog w) A (pyNext (.ref z)) Q E s:=by
 have hT:s.TypeIs (.ref z) "zip":=⟨_,hz,rfl⟩;unfold pyNext;refine ad (wpAny_attempt (wpAny_callSpecial?_slot (name:=Str.ofString "__next__") hT F.slot_zip_next (wpAny_call_entry F.slot_zip_next hT F.entry_zip_next (G3 hh D hz hI hO g1 g2 t1 t2 hx λh' e k ⟨o,ho,hc⟩=>?_) (F.args_zip_next_1 _))));exact ad (wpAny_isInstance (T:="StopIteration") (b:=true) ⟨o,ho,hc⟩ isSubtype_stop (am (q _ k)))
def Bi (hh:A.handled=none)(D:ZipApart z TI TO i1 i2 l1 l2)(hz:bZ s.heap z TI TO (.int T t) (.bool fb))(hT:s.heap.get? T.toNat=some oT)(hI:IsPair s.heap TI (.ref i1) (.ref i2))
  (g1:bC tp1 s.heap i1 l1 k1) (g2:bC tp2 s.heap i2 l2 k2) (t1:bW tp1 s.heap l1 xs) (t2:bW tp2 s.heap l2 ys) (hx:xs[k1]? =none\/ys[k2]? =none)
  (q:∀ h',(∀ c o,c≠z->c≠i1->c≠i2->s.heap.get? c=some o->h'.get? c=some o)->Q none { s with heap:=h' }):wpAny (model prog w) A (pyNext (.ref z)) Q E s:=by
 have hT':s.TypeIs (.ref z) "zip":=⟨_,hz,rfl⟩;unfold pyNext;refine ad (wpAny_attempt (wpAny_callSpecial?_slot (name:=Str.ofString "__next__") hT' F.slot_zip_next (wpAny_call_entry F.slot_zip_next hT' F.entry_zip_next (zZ hh D hz hT hI g1 g2 t1 t2 hx λh' e k ⟨o,ho,hc⟩=>?_) (F.args_zip_next_1 _))));exact ad (wpAny_isInstance (T:="StopIteration") (b:=true) ⟨o,ho,hc⟩ isSubtype_stop (am (q _ k)))
abbrev Al (tp:Bool)(c:Addr):Obj:=match tp with
 |true=>{ cls:=.type "tuple_iterator",data:=.fields #[.ref c,.int 0 0] }
 |false=>{ cls:=.type "list_iterator",data:=.fields #[.ref c,.int 0 0] }
def rH {vs:Array Value}{Q:NV}(t:bW tp s.heap c vs)(q:Q (.ref s.heap.objs.size) { s with heap:=s.heap.push (Al tp c) }):wpAny (model prog w) A (pyIter (.ref c)) Q E s:=by
 cases tp
 .exact wpAny_pyIter_list t q
 .exact wpAny_pyIter_tuple t q
@[reducible]def Iw (a:Array Value):Obj:={ cls:=.type "tuple",data:=.seq a }
@[reducible]def Hy (m n:Addr):Obj:={ cls:=.type "zip",data:=.fields #[.none,.bool false,.bool false,.ref m,.ref n] }
def JI {l:Addr}:(Al tp l).isFreed=false:=by cases tp<;>rfl
def JJ {n:Nat}(o:Obj)(hn:h.objs.size=n)(ho:o.isFreed=false:=by first|rfl|exact JI):∃ h',h.push o=h'/\h'.get? n=some o/\h'.objs.size=n+1/\∀ c o',h.get? c=some o'->h'.get? c=some o':=
 ⟨_,rfl,hn▸v4 _ ho,by rw[Heap.size_push,hn],λ_ _ e=>ut _ e⟩
def MY {i l:Addr}(e:h.get? i=some (Al tp l)):bC tp h i l 0:=by
 cases tp
 .exact⟨_,e,rfl,rfl⟩
 .exact⟨_,e,rfl,rfl⟩
noncomputable abbrev ET (h:Heap)(tp1 tp2:Bool)(l1 l2:Addr):Heap:=((((h.push (Al tp1 l1)).push (Al tp2 l2)).push (Iw #[.ref h.objs.size,.ref (h.objs.size+1)])).push (Iw #[.none,.none])).push (Hy (h.objs.size+2) (h.objs.size+3))
def B7 (tp1 tp2:Bool)(l1 l2:Addr)(xs ys:Array Value):Meets (Builtin.«zip.__new__» ⟨[.type "zip",.ref l1,.ref l2],[]⟩)
  (λ_ R s=>bW tp1 s.heap l1 xs/\bW tp2 s.heap l2 ys/\R (.ok (.ret (.ref (s.heap.objs.size+4)))) { s with heap:=ET s.heap tp1 tp2 l1 l2 }):=.of_wp λprog w A R s h=>by
 obtain⟨hp,g,d,tk,os⟩:=s;obtain⟨t1,t2,q⟩:=h;have hsub:=sub_zip;have t2':bW tp2 (hp.push (Al tp1 l1)) l2 ys:=t2.to λo e=>ut _ e
 wp_walk using rH (s:=⟨hp,g,d,tk,os⟩) t1,rH (s:=⟨hp.push (Al tp1 l1),g,d,tk,os⟩) t2'
 refine⟨_,rfl,?_⟩;simp only[Heap.size_push,Nat.add_assoc]at q⊢;exact q
def rR {Q:NV}(t1:bW tp1 s.heap l1 xs)(t2:bW tp2 s.heap l2 ys)
  (q:∀ h',bZ h' (s.heap.objs.size+4) (s.heap.objs.size+2) (s.heap.objs.size+3) .none (.bool false)->IsPair h' (s.heap.objs.size+2) (.ref s.heap.objs.size) (.ref (s.heap.objs.size+1))->
   IsPair h' (s.heap.objs.size+3) .none .none->bC tp1 h' s.heap.objs.size l1 0->bC tp2 h' (s.heap.objs.size+1) l2 0->h'.objs.size=s.heap.objs.size+5->
   (∀ c o,s.heap.get? c=some o->h'.get? c=some o)->Q (.ref (s.heap.objs.size+4)) { s with heap:=h' }):
  wpAny (model prog w) A (call (.type "zip") [.ref l1,.ref l2]) Q E s:=by
 refine callType_new F.called_zip (by decide) (F.typeCall_zip_2 _ _) (F.newCall_zip_2 _ _) (λobj=>F.args_object_init_3 obj _ _) F.entry_zip_new (B7 tp1 tp2 l1 l2 xs ys) ⟨t1,t2,?_⟩;generalize hn:s.heap.objs.size=n at q⊢;have hz:ET s.heap tp1 tp2 l1 l2=((((s.heap.push (Al tp1 l1)).push (Al tp2 l2)).push (Iw #[.ref n,.ref (n+1)])).push (Iw #[.none,.none])).push (Hy (n+2) (n+3)):=by rw[<-hn]
 obtain⟨_,a1,e0,z0,k0⟩:=JJ (Al tp1 l1) hn;obtain⟨_,a2,e1,z1,k1⟩:=JJ (Al tp2 l2) z0;obtain⟨_,a3,e2,z2,k2⟩:=JJ (Iw #[.ref n,.ref (n+1)]) z1;obtain⟨_,a4,e3,z3,k3⟩:=JJ (Iw #[.none,.none]) z2;obtain⟨_,a5,e4,z4,k4⟩:=JJ (Hy (n+2) (n+3)) z3;rw[hz,a1,a2,a3,a4,a5];exact⟨⟨_,e4,rfl⟩,q _ e4 (k4 _ _ (k3 _ _ e2)) (k4 _ _ e3) ((MY e0).to λo e=>k4 _ _ (k3 _ _ (k2 _ _ (k1 _ _ e)))) ((MY e1).to λo e=>k4 _ _ (k3 _ _ (k2 _ _ e))) z4 λc o e=>k4 _ _ (k3 _ _ (k2 _ _ (k1 _ _ (k0 _ _ e))))⟩
def zS {n:Addr}(a1:l1<n)(a2:l2<n):ZipApart (n+4) (n+2) (n+3) n (n+1) l1 l2:=by
 constructor<;>(intro e;have e':=(show @Eq Nat _ _ from e);have b1:=(show @LT.lt Nat _ l1 n from a1);have b2:=(show @LT.lt Nat _ l2 n from a2);omega)
def xH {m:Nat}{T:Addr}{Q:NU}(hz:bZ s.heap z TI TO (rawInt T) f1)(q:∀ h',bZ h' z TI TO .none f1->Heap.SameBut z s.heap h'->Q () { s with heap:=h' }):
  wpAny (model prog w) A (letOwnedTupleGo (.Tuple elts m pos) (.ref z) (.ref T)) Q E s:=by
 unfold letOwnedTupleGo;refine ad (wpAny_load hz ?_);show wpAny _ _ (if(["enumerate","zip","dict_itemiterator","dict_reverseitemiterator","odict_iterator","itertools.zip_longest","itertools.pairwise"].contains "zip"&&(#[rawInt T,f1,.bool false,.ref TI,.ref TO]:Array Value)[0]? ==some (rawInt T))=true then _ else _) Q E s;rw[if_pos (by simp)];exact ad (wpAny_rule (wpAny_setField_rec hz (by simp) λh' z' b'=>q h' z' b'))
def mh {f0:Value}{Q:NV}(hz:bZ s.heap z TI TO f0 f1)(h:Q (.ref z) s):wpAny (model prog w) A (pyIter (.ref z)) Q E s:=by
 have hT:s.TypeIs (.ref z) "zip":=⟨_,hz,rfl⟩;refine wpAny_pyIter_slot hT F.slot_zip_iter (wpAny_call_entry F.slot_zip_iter hT F.entry_zip_iter ?_ (F.args_zip_iter_1 _));show wpAny _ _ (ret (.ref z)) _ _ s;exact am ⟨_,rfl,"zip",_,hT,F.slot_zip_next.lookup,h⟩
end
variable {X:Cx}{Y:NW}{U:St}{H:Hp}{s:Shared}
def Inv.Ek {h':Heap}{t':Nat}{ch:List Addr}(I:Inv X Y U H s)(k:∀ b u,b ∉ ch->s.heap.get? b=some u->h'.get? b=some u) (hf:∀ b ∈ ch,jo X Y H b):Inv X Y U H { s with heap:=h',toks:=t' }:=by
 have nch:∀ b u,H b=some u->b ∉ ch:=λb u e z=>by rw[(hf b z).1]at e;cases e
 refine I.step (g':=s.gens) (d':=s.drawn) (ch:=ch) (λb hb=>?_) (λb o _ _ hc e _=>k b o hc e) (λb o _ _ hc e _=>⟨o.slots,k b o hc e⟩) (λ_ _ _ _ n=>n)
  (λb o hc e=>⟨o,k b o hc e⟩) (λ_ _ e=>e) (λ_ _ _ e=>e) (λb ps e=>⟨#[],by rw[e];simp⟩) (λm hm=>?_) (λb u e=>?_) I.bare
 .obtain⟨_,f1,_,f3,f4,f5⟩:=hf b hb;exact⟨f3,f1,f4,f5⟩
 .obtain⟨o,es,ep,ho,r⟩:=hm;exact⟨o,es,ep,k _ o (λz=>(hf _ z).2.1 rfl) ho,r⟩
 .refine(I.hok b u e).kH (λc v hc q=>k c v ?_ q) (λ_ q=>q) λ_ _ q=>q
  rcases hc with rfl|hc
  .exact nch _ _ e
  .exact nch _ _ hc
abbrev Sq (K:W.Frag)(tp:Bool)(H:Hp)(c:Addr)(xs:List V):Prop:=match tp with
 |true=>bp K H c xs
 |false=>bb K H c xs
def Inv.sq {xs:List V}(I:Inv X Y U H s)(h:Sq X.K tp H c xs):∃ its:List Value,Vals xs its/\bW tp s.heap c its.toArray:=by
 cases tp
 .obtain⟨its,r,p,_⟩:=I.list h;exact⟨its,r,p.isList⟩
 .obtain⟨its,r,p,_⟩:=I.tuple h;exact⟨its,r,p⟩
def Inv.AQ {xs ys:List V}(I:Inv X Y U H s)(h:Sq X.K tp H c xs)(h':Sq X.K tp H c ys):xs=ys:=by
 cases tp
 .exact I.mz h h'
 .exact I.jE h h'
abbrev Lb (K:W.Frag)(tp1:Bool)(l1:Addr)(tp2:Bool)(l2:Addr):It:=
 ⟨λi H=>∃ xs ys x y,Sq K tp1 H l1 xs/\Sq K tp2 H l2 ys/\xs[i]? =some x/\ys[i]? =some y,
  λi H v H'=>∃ T x y,H T=none/\v=.ref T/\H'=upd H T (.tup [x,y])/\(∀ xs,Sq K tp1 H l1 xs->xs[i]? =some x)/\∀ ys,Sq K tp2 H l2 ys->ys[i]? =some y,
  λi H=>∃ xs ys,Sq K tp1 H l1 xs/\Sq K tp2 H l2 ys/\(xs.length<=i\/ys.length<=i)⟩
def Bk {P:Program}{w:World}{K:W.Frag}{tp1 tp2:Bool}{z TI TO i1 i2 l1 l2:Addr}(D:ZipApart z TI TO i1 i2 l1 l2):
  Turn P w K (.Tuple elts k pos) (Lb K tp1 l1 tp2 l2) [z,TI,TO,i1,i2] z (λi h=>(∃ f1,bZ h z TI TO .none f1)/\IsPair h TI (.ref i1) (.ref i2)/\(∃ a b,IsPair h TO a b)/\bC tp1 h i1 l1 i/\bC tp2 h i2 l2 i) where
 mem:=by simp
 obj:=λi h st b hb=>by
  obtain⟨⟨f1,hz⟩,hI,⟨a,b',hO⟩,g1,g2⟩:=st;have it:∀ {tp:Bool}{j c:Addr}{k:Nat},bC tp h j c k->∃ o,h.get? j=some o/\∀ v,o.data≠.cell v:=λ{tp j c k} g=>by
   cases tp
   .obtain⟨o,e,_,d⟩:=(show h.IsListIter j c k from g);exact⟨o,e,λv z=>by rw[d]at z;cases z⟩
   .obtain⟨o,e,_,d⟩:=(show h.IsTupleIter j c k from g);exact⟨o,e,λv z=>by rw[d]at z;cases z⟩
  simp only[nw,not_mem_nil,or_false]at hb;rcases hb with rfl|rfl|rfl|rfl|rfl
  .exact⟨_,hz,λv e=>by cases(show Data.fields _=Data.cell v from e)⟩
  .exact⟨_,hI,λv e=>by cases(show Data.seq _ _=Data.cell v from e)⟩
  .exact⟨_,hO,λv e=>by cases(show Data.seq _ _=Data.cell v from e)⟩
  .exact it g1
  .exact it g2
 keep:=λi h h' st k=>by
  obtain⟨⟨f1,hz⟩,hI,⟨a,b',hO⟩,g1,g2⟩:=st;exact⟨⟨f1,k z (by simp) _ hz⟩,k TI (by simp) _ hI,⟨a,b',k TO (by simp) _ hO⟩,g1.to λo e=>k i1 (by simp) o e,g2.to λo e=>k i2 (by simp) o e⟩
 item:=by
  intro X hP hw hK hc i Y s U H E I hf st hg;subst hP hw hK;obtain⟨xs,ys,x,y,hq1,hq2,hx,hy⟩:=hg;obtain⟨⟨f1,hz⟩,hI,⟨a,b,hO⟩,g1,g2⟩:=st;obtain⟨is1,r1,t1⟩:=I.sq hq1;obtain⟨is2,r2,t2⟩:=I.sq hq2;obtain⟨u,hu,ru⟩:=r1.get hx;obtain⟨v,hv,rv⟩:=r2.get hy;have n0:∀ {c o},s.heap.get? c=some o->c≠s.heap.objs.size:=λe=>sn (v0 e)
  refine wQ D hz hI hO g1 g2 t1 t2 (x:=u) (y:=v) (by simpa using hu) (by simpa using hv) λh1 z1 o1 j1 j2 hT hs1 k1=>?_
  have I1:Inv X Y U (upd H s.heap.objs.size (.tup [x,y])) { s with heap:=h1,toks:=s.toks }:=
   I.sZ (ch:=[z,TI,TO,i1,i2]) (λb o hb q=>k1 b o (λe=>hb (by simp[e])) (λe=>hb (by simp[e])) (λe=>hb (by simp[e])) (λe=>hb (by simp[e])) q) hf (sw _)
    ⟨fits (re rfl),[u,v],.cons ru (.cons rv .nil),⟨_,hT,rfl,_,rfl⟩⟩
  refine⟨_,rfl,xH z1 λh2 z2 b2=>?_⟩;obtain⟨f0,f1',f2,f3,f4,f5⟩:=hf z (by simp);have I2:=I1.turned (h':=h2) (t':=s.toks) (it:=z) (λb o hb q=>(b2.2 b hb).trans q) (by rw[aj (n0 hz)];exact f0) f1' f3 f4 f5;refine⟨.ref s.heap.objs.size,_,I2,rfl,⟨_,x,y,I.hok.fresh (sw _),rfl,rfl,λzs hz'=>?_,λzs hz'=>?_⟩,⟨⟨_,z2⟩,?_,⟨_,_,b2.extBut _ _ D.TOz o1⟩,j1.to λo e=>b2.extBut _ o D.i1z e,j2.to λo e=>b2.extBut _ o D.i2z e⟩,λb hb=>?_⟩
  .rw[I.AQ hz' hq1];exact hx
  .rw[I.AQ hz' hq2];exact hy
  .exact b2.extBut _ _ D.TIz (k1 _ _ D.TIz D.TITO D.TIi1 D.TIi2 hI)
  .have hb':b≠s.heap.objs.size:=by
    simp only[nw,not_mem_nil,or_false]at hb;rcases hb with rfl|rfl|rfl|rfl|rfl
    .exact n0 hz
    .exact n0 hI
    .exact n0 hO
    .exact sn g1.lt
    .exact sn g2.lt
   rw[aj hb'];exact(hf b hb).1
 done:=by
  intro X hP hw hK hc i Y s U H E I hf st hg;subst hP hw hK;obtain⟨xs,ys,hq1,hq2,hx⟩:=hg;obtain⟨⟨f1,hz⟩,hI,⟨a,b,hO⟩,g1,g2⟩:=st;obtain⟨is1,r1,t1⟩:=I.sq hq1;obtain⟨is2,r2,t2⟩:=I.sq hq2;have e1:=r1.length;have e2:=r2.length;refine Ad (I.ok.hd hc) D hz hI hO g1 g2 t1 t2 (by simp;omega) λh' k'=>⟨rfl,?_⟩
  exact I.Ek (t':=s.toks) (ch:=[z,TI,TO,i1,i2]) (λb o hb q=>k' b o (λe=>hb (by simp[e])) (λe=>hb (by simp[e])) (λe=>hb (by simp[e])) (λe=>hb (by simp[e])) q) hf
 self:=λ_ _ _ _ _ st h=>by
  obtain⟨⟨f1,hz⟩,_⟩:=st;exact mh hz h
def BF:bootBuiltins "zip"=some (.type "zip"):=by decide+kernel
abbrev IU (K:W.Frag)(v u:V)(H:Hp)(R:It->Hp->Prop):Prop:=∃ tp1 l1 tp2 l2,v=.ref l1/\u=.ref l2/\(∃ xs,Sq K tp1 H l1 xs)/\(∃ ys,Sq K tp2 H l2 ys)/\R (Lb K tp1 l1 tp2 l2) H
abbrev LP (K:W.Frag)(ta:TA):TI:=λU H R=>ta U H λvs H1=>∃ v u,vs=[v,u]/\IU K v u H1 R
variable {ta:TA}{p:Pos}
def Gy {a b:Expr}{pos':Pos}(hg:Gl X "zip") (hm:X.mg "zip"=none) (ha:PA X [a,b] ta) (hs:bn [a,b] X.env=(false,eval a X.env)::bn [b] X.env:=by rfl) (hpl:(backTo pos (bn [b] X.env)).any (·.1)=false:=by rfl):
  PI X (.Tuple elts k pos') (.Call (.Name "zip" p) [a,b] [] pos) (LP X.K ta):=by
 intro Y s U H R I h;refine Call_ (cW I hg hm BF (PyProof.Rows.callWith_type1 (aD (ha pos Y s U H _ I h) λus s1 ⟨vs,H1,I1,r1,q1⟩=>?_) hs hpl));obtain⟨v,u,e,tp1,l1,tp2,l2,e1,e2,⟨xs,q1⟩,⟨ys,q2⟩,q⟩:=q1;subst e e1 e2;cases r1 with
 |cons r rr=>
  cases rr with
  |cons r' rr'=>
   cases rr';cases r;cases r';obtain⟨is1,s1',t1⟩:=I1.sq q1;obtain⟨is2,s2',t2⟩:=I1.sq q2;refine rR t1 t2 λh' hz hI hO g1 g2 hsz hk=>?_
   refine mh hz ?_;refine⟨s1.heap.objs.size+4,[s1.heap.objs.size+4,s1.heap.objs.size+2,s1.heap.objs.size+3,s1.heap.objs.size,s1.heap.objs.size+1],_,_,H1,rfl,I1.kept (t':=s1.toks) hk,Bk (zS t1.lt t2.lt),⟨⟨_,hz⟩,hI,⟨_,_,hO⟩,g1,g2⟩,λb hb=>?_,q⟩;have hb':s1.heap.objs.size<=b:=by
    simp only[nw,not_mem_nil,or_false]at hb;rcases hb with rfl|rfl|rfl|rfl|rfl<;>first|exact sw _|exact Nat.le_add_right _ _
   exact I1.A0 hb' (I1.hok.fresh hb')
def pD:entryFor table "zip.__getattribute__"=some Builtin.«object.__getattribute__»:=entryFor_alias (id':="object.__getattribute__") (by kernel_rfl) (by first|rfl|decide+kernel) (by decide+kernel) (by kernel_rfl)
def qO:typeLookup (.type "zip") "keys"=pure none:=by rw[typeLookup_type,builtinLookup_eq_fast];kernel_rfl
def xD:typeLookup (.type "zip") "__getattr__"=pure none:=by rw[typeLookup_type,builtinLookup_eq_fast];kernel_rfl
def xM (a:Addr)(vs:Array Value)(u:Tok):Meets (Builtin.«object.__getattribute__» ⟨[.ref a,.str "keys" u],[]⟩) (λA R s=>s.heap.get? a=some { cls:=.type "zip",dict:=none,data:=.fields vs,slots:=#[] }/\raisesAttr (.ref a) "keys" A R s):=
 Meets.of_wp λprog w A R s ⟨hx,hs⟩=>by
  obtain⟨hp,g,d,tk,os⟩:=s;have hT:(⟨hp,g,d,tk,os⟩:Shared).TypeIs (.ref a) "zip":=⟨_,hx,rfl⟩;have f4:=qO;unfold Builtin.«object.__getattribute__»
  repeat(any_goals first|assumption|wp_step)
  exact wpAny_raiseAttrError hs.1 hs.2 (attrMsg_fits (by decide+kernel) (by rw[sizeLine_eq];decide+kernel))
section
variable {prog:Program}{w:World}{A:Around}{E:NV}{s:Shared}{a:Addr}{vs:Array Value}
def By (hA:A.handled=none)(hx:s.heap.get? a=some { cls:=.type "zip",dict:=none,data:=.fields vs,slots:=#[] })
  (q:∀ h' t',(∀ c u,s.heap.get? c=some u->h'.get? c=some u)->Q none { s with heap:=h',toks:=t' }):wpAny (model prog w) A (getAttr? (.ref a) "keys") Q E s:=by
 obtain⟨hp,g,d,tk,os⟩:=s;have hT:∀ t',(⟨hp,g,d,t',os⟩:Shared).TypeIs (.ref a) "zip":=λ_=>⟨_,hx,rfl⟩
 have f1:=sub_AttributeError;have f3:=PySem.F.slot_zip_getattribute.lookup;have f4:=PySem.F.slot_zip_getattribute.bind (.ref a);have f5:=xD;unfold getAttr? getAttrBy? getAttrBy
 repeat(any_goals first|assumption|((with_reducible show wpAny _ _ (call (Value.builtin "zip.__getattribute__") _ _) _ _ _);refine call_meets PySem.F.slot_zip_getattribute (hT _) pD (PySem.F.args_zip_getattribute_2 _ _) (xM a vs _) ⟨hx,hA,λh' tk' e he=>?_⟩)|wp_step)
 obtain⟨t1,u1,e1⟩:=he.there;show wpAny _ _ (getattributeRaised _ _ _ _ _ _ _) _ _ _;unfold getattributeRaised
 repeat(any_goals first|assumption|wp_step)
 exact q _ _ he.keeps
end
structure Zs (h:Heap) (tp1 tp2:Bool) (z TI TO i1 i2 l1 l2:Addr) (i:Nat) (xs ys:Array Value):Prop where
 zo:(∃ f1,bZ h z TI TO .none f1)\/∃ (T:Int) (fb:Bool) (o:Obj),bZ h z TI TO (rawInt T) (.bool fb)/\h.get? T.toNat=some o/\T.toNat≠z/\T.toNat≠TO/\T.toNat≠i1/\T.toNat≠i2
 hI:IsPair h TI (.ref i1) (.ref i2)
 hO:∃ a b,IsPair h TO a b
 g1:bC tp1 h i1 l1 i
 g2:bC tp2 h i2 l2 i
 t1:bW tp1 h l1 xs
 t2:bW tp2 h l2 ys
variable {d:Addr}
section
variable {prog:Program}{w:World}{A:Around}{E:NV}{s:Shared}{tp1 tp2:Bool}{z TI TO i1 i2 l1 l2:Addr}{i:Nat}{xs ys:Array Value}{x y:Value}
def Zs.next (D:ZipApart z TI TO i1 i2 l1 l2)(Z:Zs s.heap tp1 tp2 z TI TO i1 i2 l1 l2 i xs ys)(hx:xs[i]? =some x)(hy:ys[i]? =some y)
  (q:∀ h',Zs h' tp1 tp2 z TI TO i1 i2 l1 l2 (i+1) xs ys->IsPair h' s.heap.objs.size x y->h'.objs.size=s.heap.objs.size+1->(∀ c o,c≠z->c≠TO->c≠i1->c≠i2->s.heap.get? c=some o->h'.get? c=some o)->Q (some (.ref s.heap.objs.size)) { s with heap:=h' }):
  wpAny (model prog w) A (pyNext (.ref z)) Q E s:=by
 obtain⟨zo,hI,⟨a,b,hO⟩,g1,g2,t1,t2⟩:=Z;have n0:∀ {c o},s.heap.get? c=some o->s.heap.objs.size≠c:=λe=>Nat.ne_of_gt (v0 e)
 rcases zo with⟨f1,hz⟩|⟨T,fb,o,hz,hT,n1,n2,n3,n4⟩
 .refine wQ D hz hI hO g1 g2 t1 t2 hx hy λh' z1 o1 j1 j2 p1 sz k=>?_
  refine q h' ⟨.inr ⟨s.heap.objs.size,false,_,z1,p1,n0 hz,n0 hO,Nat.ne_of_gt g1.lt,Nat.ne_of_gt g2.lt⟩,k _ _ D.TIz D.TITO D.TIi1 D.TIi2 hI,⟨_,_,o1⟩,j1,j2,t1.to λo e=>k _ o D.l1z D.l1TO D.l1i1 D.l1i2 e,t2.to λo e=>k _ o D.l2z D.l2TO D.l2i1 D.l2i2 e⟩ p1 sz k
 .refine Eh D hz hT hI g1 g2 t1 t2 hx hy λh' z1 j1 j2 p1 sz k=>?_
  exact q h' ⟨.inr ⟨T,true,o,z1,k _ _ n1 n3 n4 hT,n1,n2,n3,n4⟩,k _ _ D.TIz D.TIi1 D.TIi2 hI,⟨a,b,k _ _ D.TOz D.TOi1 D.TOi2 hO⟩,j1,j2,t1.to λo e=>k _ o D.l1z D.l1i1 D.l1i2 e,t2.to λo e=>k _ o D.l2z D.l2i1 D.l2i2 e⟩ p1 sz λc o m1 _ m3 m4 e=>k c o m1 m3 m4 e
def Zs.stop (hh:A.handled=none)(D:ZipApart z TI TO i1 i2 l1 l2)(Z:Zs s.heap tp1 tp2 z TI TO i1 i2 l1 l2 i xs ys)(hx:xs[i]? =none\/ys[i]? =none)
  (q:∀ h',(∀ c o,c≠z->c≠TO->c≠i1->c≠i2->s.heap.get? c=some o->h'.get? c=some o)->Q none { s with heap:=h' }):wpAny (model prog w) A (pyNext (.ref z)) Q E s:=by
 obtain⟨zo,hI,⟨a,b,hO⟩,g1,g2,t1,t2⟩:=Z;rcases zo with⟨f1,hz⟩|⟨T,fb,o,hz,hT,_⟩
 .exact Ad hh D hz hI hO g1 g2 t1 t2 hx q
 .exact Bi hh D hz hT hI g1 g2 t1 t2 hx λh' k=>q h' λc o m1 _ m3 m4 e=>k c o m1 m3 m4 e
def Zs.keep {h':Heap}(Z:Zs h tp1 tp2 z TI TO i1 i2 l1 l2 i xs ys)(k:∀ c o,h.get? c=some o->c≠d->h'.get? c=some o) (n:d≠z/\d≠TI/\d≠TO/\d≠i1/\d≠i2/\d≠l1/\d≠l2) (hd:∃ o,h'.get? d=some o):Zs h' tp1 tp2 z TI TO i1 i2 l1 l2 i xs ys:=by
 obtain⟨zo,hI,⟨a,b,hO⟩,g1,g2,t1,t2⟩:=Z;obtain⟨m1,m2,m3,m4,m5,m6,m7⟩:=n;refine⟨?_,k _ _ hI m2.symm,⟨a,b,k _ _ hO m3.symm⟩,g1.to λo e=>k _ o e m4.symm,g2.to λo e=>k _ o e m5.symm,t1.to λo e=>k _ o e m6.symm,t2.to λo e=>k _ o e m7.symm⟩;rcases zo with⟨f1,hz⟩|⟨T,fb,o,hz,hT,r⟩
 .exact .inl ⟨f1,k _ _ hz m1.symm⟩
 .by_cases e:T.toNat=d
  .obtain⟨o',ho⟩:=hd;exact .inr ⟨T,fb,o',k _ _ hz m1.symm,by rw[e];exact ho,r⟩
  .exact .inr ⟨T,fb,o,k _ _ hz m1.symm,k _ _ hT e,r⟩
end
def gb:plainId "dict.update.loop"=true:=by decide+kernel
def oY:entryFor table "dict.update.loop"=some Builtin.«dict.update.loop»:=entryFor_of_tree (by kernel_rfl)
section
variable {prog:Program}{w:World}{A:Around}{tp1 tp2:Bool}{z TI TO i1 i2 l1 l2 d:Addr}{xs ys:Array Value}{Ky:Type} [DecidableEq Ky] {knd:KeyKind prog w Ky}
def Bq (hh:A.handled=none)(D:ZipApart z TI TO i1 i2 l1 l2)(nd:d≠z/\d≠TI/\d≠TO/\d≠i1/\d≠i2/\d≠l1/\d≠l2)(ks:List Ky)(hk:∀ (j:Nat) x,xs[j]? =some x->∃ k,ks[j]? =some k/\knd.is k x=true) (hz:xs.size=ys.size):
  ∀ (m i:Nat),xs.size-i=m->i<=xs.size->∀ (s:Shared) (kvs:List (Ky×Value)) (R:Result->Shared->Prop),Zs s.heap tp1 tp2 z TI TO i1 i2 l1 l2 i xs ys->s.heap.DictOf knd d kvs->kvs.length+m<=bv->
  (∀ h' t',h'.DictOf knd d (merged kvs ((ks.zip ys.toList).drop i))->(∀ c o,c≠z->c≠TO->c≠i1->c≠i2->c≠d->s.heap.get? c=some o->h'.get? c=some o)->R (.ok (.ret .none)) { s with heap:=h',toks:=t' })->
  wpAny (model prog w) A.in1 (Builtin.«dict.update.loop» ⟨[.ref d,.ref z,rawInt i,.none],[]⟩) (λfin s'=>match fin with| .done f=>R (.ok f) s'| .again c'=>c'.quiet=true/\codeAny (model prog w) A c' R s') (λe s'=>R (.error e) s') s:=by
 intro m
 induction m with
 |zero=>
  intro i hm hi s kvs R Z dd hl q;show wpAny _ _ (pyNext (.ref z) >>= _) _ _ _;refine ad (Z.stop (show A.in1.handled=none from hh) D (.inl (by simp;omega)) λh' k=>?_);show wpAny _ _ (Builtin.Dict.addKeywords d [] >>= _) _ _ _;refine ad (am (am ?_));have e:(ks.zip ys.toList).drop i=[]:=by
   rw[List.drop_eq_nil_iff,length_zip];simp
   omega
  rw[e]at q;refine q h' s.toks ?_ λc o n1 n2 n3 n4 _ e=>k c o n1 n2 n3 n4 e
  obtain⟨o,es,ep,ho,r⟩:=dd;exact⟨o,es,ep,k _ _ nd.1 nd.2.2.1 nd.2.2.2.1 nd.2.2.2.2.1 ho,r⟩
 |succ m ih=>
  intro i hm hi s kvs R Z dd hl q;have h1:i<xs.size:=by omega
  have h2:i<ys.size:=by omega
  have e1:xs[i]? =some xs[i]:=Array.getElem?_eq_getElem h1;have e2:ys[i]? =some ys[i]:=Array.getElem?_eq_getElem h2;obtain⟨k,hk1,hk2⟩:=hk i _ e1;show wpAny _ _ (pyNext (.ref z) >>= _) _ _ _;refine ad (Z.next D e1 e2 λh' Z' p sz fr=>?_);show wpAny _ _ (holding [_] _ >>= _) _ _ _;refine ad (bd ?_);refine ad ?_;have hT:({ s with heap:=h' }:Shared).TypeIs (.ref s.heap.objs.size) "tuple":=⟨_,p,rfl⟩;refine wpAny_tryCatch ?_;unfold Builtin.Dict.pairItems;refine ad (wpAny_typeOf hT ?_);rw[if_pos (by decide)];refine ad (wpAny_seqItems p rfl (am ?_));show wpAny _ _ (holding [_,_] (dictSet d xs[i] ys[i])) _ _ _;refine bd ?_;have dd':h'.DictOf knd d kvs:=by
   obtain⟨o,es,ep,ho,r⟩:=dd;exact⟨o,es,ep,fr _ _ nd.1 nd.2.2.1 nd.2.2.2.1 nd.2.2.2.2.1 ho,r⟩
  refine wpAny_dictSet_pairs (s:={ s with heap:=h' }) (hsz:=by omega) hk2 dd' λh2' d2 b2=>?_
  show wpAny _ _ (pure (Fin.again (.builtin "dict.update.loop" ⟨[.ref d,.ref z,rawInt ((i:Int)+1),.none],[]⟩))) _ _ _;refine am ⟨plainId_quiet gb _,codeAny_builtin oY ?_⟩;rw[Around.under_plainId gb _,show((i:Int)+1)=((i+1:Nat):Int) by push_cast;rfl];have hd:∃ o,h2'.get? d=some o:=let⟨o,_,_,ho,_⟩:=d2;⟨o,ho⟩;refine ih (i+1) nofun nofun { s with heap:=h2',toks:=s.toks+1 } (stored kvs k ys[i]) R (Z'.keep (λc o e n=>b2.extBut _ _ n e) nd hd) d2 ?_ λh3 t3 d3 f3=>?_
  .have:(stored kvs k ys[i]).length<=kvs.length+1:=by
    unfold stored
    split
    .rw[ci];omega
    .rw[cr];simp
   omega
  .have ed:(ks.zip ys.toList).drop i=(k,ys[i])::(ks.zip ys.toList).drop (i+1):=by
    have:(ks.zip ys.toList)[i]? =some (k,ys[i]):=by
     rw[List.getElem?_zip_eq_some];exact⟨hk1,by simpa using h2⟩
    obtain⟨hlt,he⟩:=ul.mp this;rw[drop_eq_getElem_cons hlt,he]
   refine q h3 t3 ?_ λc o n1 n2 n3 n4 n5 e=>f3 c o n1 n2 n3 n4 n5 (b2.extBut _ _ n5 (fr c o n1 n2 n3 n4 e))
   rw[ed];exact d3
def pk {E:NV}{Q:NV}(hh:A.handled=none)(D:ZipApart z TI TO i1 i2 l1 l2)(ks:List Ky)(hk:∀ (j:Nat) x,xs[j]? =some x->∃ k,ks[j]? =some k/\knd.is k x=true) (hz:xs.size=ys.size) (hn:ks.Nodup) (hkl:ks.length=xs.size) (hsz:xs.size<=bv)
  (Z:Zs s.heap tp1 tp2 z TI TO i1 i2 l1 l2 0 xs ys) (hzo:∃ f1,bZ s.heap z TI TO .none f1)
  (q:∀ h' t',h'.DictOf knd s.heap.objs.size (ks.zip ys.toList)->(∀ c o,c≠z->c≠TO->c≠i1->c≠i2->s.heap.get? c=some o->h'.get? c=some o)->Q (.ref s.heap.objs.size) { s with heap:=h',toks:=t' }):
  wpAny (model prog w) A (call (.type "dict") [.ref z]) Q E s:=by
 refine callType_codes (Q₁:=λobj s1=>obj=.ref s.heap.objs.size/\s1={ s with heap:=s.heap.push { cls:=.type "dict",data:=.dict #[] } }) PySem.F.kt_called_dict (PySem.F.kt_typeCall_dict_1 _) PySem.F.entry_dict_init (kt_code_dict_new _ ⟨rfl,rfl⟩) ?_;rintro obj s1 ⟨rfl,rfl⟩;have dn:(s.heap.push { cls:=.type "dict",data:=.dict #[] }).DictOf knd s.heap.objs.size []:=Heap.DictOf.new s.heap;refine⟨dn.typeIs,PySem.F.args_dict_init_2 _ _,?_⟩;unfold Builtin.«dict.__init__»;refine ad ?_;unfold Builtin.Dict.selfAndRest;refine ad (wpAny_notOrdered_dict dn.typeIs ?_);show wpAny _ _ (pure (s.heap.objs.size,[Value.ref z])) _ _ _;refine am ?_;show wpAny _ _ (Builtin.Dict.updateFrom "dict.__init__" s.heap.objs.size (.ref z) [] .none) _ _ _;unfold Builtin.Dict.updateFrom;obtain⟨f1,hz0⟩:=hzo;have hz1:(s.heap.push { cls:=.type "dict",data:=.dict #[] }).get? z=some _:=ut _ hz0;have hT:({ s with heap:=s.heap.push { cls:=.type "dict",data:=.dict #[] } }:Shared).TypeIs (.ref z) "zip":=⟨_,hz1,rfl⟩;refine ad (wpAny_typeOf hT ?_);rw[if_pos (by decide)];refine ad (By hh hz1 λh1 t1 k1=>?_);rw[if_pos (show(none:Option Value).isNone=true from rfl)];refine ad (wpAny_rule ?_);refine ad (mh (s:={ s with heap:=h1,toks:=t1 }) (k1 _ _ hz1) ?_);have n0:∀ {c o},s.heap.get? c=some o->s.heap.objs.size≠c:=λe=>Nat.ne_of_gt (v0 e)
 have nd:s.heap.objs.size≠z/\s.heap.objs.size≠TI/\s.heap.objs.size≠TO/\s.heap.objs.size≠i1/\s.heap.objs.size≠i2/\s.heap.objs.size≠l1/\s.heap.objs.size≠l2:=by
  obtain⟨a,b,hO⟩:=Z.hO;exact⟨n0 hz0,n0 Z.hI,n0 hO,Nat.ne_of_gt Z.g1.lt,Nat.ne_of_gt Z.g2.lt,Nat.ne_of_gt Z.t1.lt,Nat.ne_of_gt Z.t2.lt⟩
 have kk:∀ c o,s.heap.get? c=some o->h1.get? c=some o:=λc o e=>k1 _ _ (ut _ e)
 have d1:h1.DictOf knd s.heap.objs.size []:=by
  obtain⟨o,es,ep,ho,r⟩:=dn;exact⟨o,es,ep,k1 _ _ ho,r⟩
 refine am ⟨plainId_quiet gb _,codeAny_builtin oY ?_⟩;rw[Around.under_plainId gb _];refine Bq (A:=A.in1) (d:=s.heap.objs.size) hh D nd ks hk hz _ 0 rfl (Nat.zero_le _) { s with heap:=h1,toks:=t1 } [] _ (Z.keep (λc o e _=>kk c o e) nd (let⟨o,_,_,ho,_⟩:=d1;⟨o,ho⟩)) d1 (by simpa using hsz) λh' t' d' f'=>?_
 rw[drop_zero,merged_nil_of_nodup _ (by rw[List.map_fst_zip (by simp;omega)];exact hn)]at d';exact⟨rfl,q h' t' d' λc o n1 n2 n3 n4 e=>f' c o n1 n2 n3 n4 (n0 e).symm (kk c o e)⟩
end
def Aw:bootBuiltins "dict"=some (.type "dict"):=by decide+kernel
def Ey {P:Program}{w:World}:∀ {ks:List Key}{us:List Value},Vals (ks.map kV) us->∀ (j:Nat) u,us[j]? =some u->∃ k,ks[j]? =some k/\(aA P w).is k u=true
 | [],_,.nil,j,u,h=>by simp at h
 |k::ks,_,.cons r rs,0,u,h=>by
  simp at h;subst h;exact⟨k,rfl,oM r⟩
 |k::ks,_,.cons r rs,j+1,u,h=>by
  simp at h;obtain⟨k',e1,e2⟩:=Ey (P:=P) (w:=w) rs j u h;exact⟨k',by simpa using e1,e2⟩
def EI:∀ {ks:List Key}{ys:List V}{us:List Value},Vals ys us->KV (ks.zip ys) (ks.zip us)
 | [],_,_,_=>by simp[List.zip];exact .nil
 |_::_,_,_,.nil=>.nil
 |k::ks,_,_,.cons r rs=>.cons ⟨rfl,r⟩ (EI rs)
abbrev M9 (K:W.Frag)(v u:V)(H:Hp)(Q:VK):Prop:=∃ tp1 l1 tp2 l2,∃ (ks:List Key) (ys:List V),v=.ref l1/\u=.ref l2/\Sq K tp1 H l1 (ks.map kV)/\Sq K tp2 H l2 ys/\ks.Nodup/\ks.length=ys.length/\ks.length<=1000/\∀ p,H p=none->Q (.ref p) (upd H p (.dK (ks.zip ys)))
abbrev NA (K:W.Frag)(ta:TA):TE:=λU H Q=>ta U H λvs H1=>∃ v u,vs=[v,u]/\M9 K v u H1 Q
def Cc {a b:Expr}{p2 pos2:Pos}(hc:X.calm=true)(hg:Gl X "dict") (hm:X.mg "dict"=none) (hg2:Gl X "zip") (hm2:X.mg "zip"=none) (ha:PA X [a,b] ta)
  (hs:bn [a,b] X.env=(false,eval a X.env)::bn [b] X.env:=by rfl) (hpl:(backTo pos2 (bn [b] X.env)).any (·.1)=false:=by rfl):
  PE X (.Call (.Name "dict" p) [.Call (.Name "zip" p2) [a,b] [] pos2] [] pos) (NA X.K ta):=by
 intro Y s U H Q I h;have h1:bn [.Call (.Name "zip" p2) [a,b] [] pos2] X.env=[(false,eval (.Call (.Name "zip" p2) [a,b] [] pos2) X.env)]:=rfl;refine Call_ (cW I hg hm Aw (PyProof.Rows.callWith_type1 ?_ h1 rfl));rw[h1];show wpAny _ _ (spliced ((false,eval (.Call (.Name "zip" p2) [a,b] [] pos2) X.env)::backTo pos [])) _ _ _;refine Calls.spliced_cons ?_;refine Call_ (cW I hg2 hm2 BF (PyProof.Rows.callWith_type1 (aD (ha pos2 Y s U H _ I h) λus s1 ⟨vs,H1,I1,r1,q1⟩=>?_) hs hpl));obtain⟨v,u,e,tp1,l1,tp2,l2,ks,ys,e1,e2,q1,q2,kn,kl,kz,q⟩:=q1;subst e e1 e2;cases r1 with
 |cons r rr=>
  cases rr with
  |cons r' rr'=>
   cases rr';cases r;cases r';obtain⟨is1,v1,t1⟩:=I1.sq q1;obtain⟨is2,v2,t2⟩:=I1.sq q2;refine rR t1 t2 λh' hz hI hO g1 g2 hsz hk=>?_
   refine Calls.spliced_nil ?_;have n1:is1.length=ks.length:=by rw[<-v1.length,ci]
   have n2:is2.length=ks.length:=by rw[<-v2.length,kl]
   refine pk (s:={ s1 with heap:=h' }) (knd:=aA X.prog X.w) (I1.ok.hd hc) (zS t1.lt t2.lt) ks (λj x hx=>Ey v1 j x (by simpa using hx)) (by simp;omega) kn (by simp;omega) (by simp;rw[n1];exact fits kz)
    ⟨.inl ⟨_,hz⟩,hI,⟨_,_,hO⟩,g1,g2,t1.to λo e=>hk _ o e,t2.to λo e=>hk _ o e⟩ ⟨_,hz⟩ λh2 t2' d2 f2=>?_
   have lt0:∀ {c o},s1.heap.get? c=some o->c<s1.heap.objs.size:=λe=>v0 e
   have hfree:H1 h'.objs.size=none:=I1.hok.fresh (by rw[hsz];exact Nat.le_add_right _ _);refine⟨.ref h'.objs.size,_,I1.laid (a:=h'.objs.size) (o:=.dK (ks.zip ys)) (t':=t2') (λc o e=>?_) (by rw[hsz];exact Nat.le_add_right _ _) ⟨?_,?_,_,EI v2,by simpa using d2⟩,rfl,q _ hfree⟩
   .have hl:=lt0 e;refine f2 c o (sn (pi hl (Nat.le_add_right _ _))) (sn (pi hl (Nat.le_add_right _ _))) (sn hl) (sn (pi hl (Nat.le_add_right _ _))) (hk c o e)
   .rw[length_zip];exact fits (Nat.le_trans (Nat.min_le_left _ _) kz)
   .exact beq_eq_false_iff_ne.mpr (Nat.ne_of_gt (pi I1.big (by rw[hsz];exact Nat.le_add_right _ _)))
section
variable {X:Cx}{Y:NW}{U:St}{H:Hp}{s:Shared}{a:Addr}{kvs:List (Key×V)}{A:Around}{E:NV}
def BM {Q:NV}(I:Inv X Y U H s)(e:Rd H a (.dK kvs))(h:∀ p s',H p=none->Inv X Y U (upd H p (.dK kvs)) s'->Q (.ref p) s'):wpAny (model X.prog X.w) A (call (.type "dict") [.ref a]) Q E s:=by
 obtain⟨z,hd,vs,rel,dd⟩:=j7 I.hok e;refine kt_call_dict hd dd (by rw[<-rel.length];exact z) λh' dd' hs=>?_
 refine h _ _ (I.hok.fresh (sw _)) (I.laid (a:=s.heap.objs.size) (o:=.dK kvs) (t':=s.toks) (λb q hq=>?_) (sw _) (ve z (beq_eq_false_iff_ne.mpr (Ne.symm (sn I.big))) rel dd'));exact(hs.2 b (sn (v0 hq))).trans (ut _ hq)
end
section
variable {X:Cx}{Y:NW}{U:St}{H:Hp}{s:Shared}
end
def JQ (d:Addr)(hd:(d ==sysModules)=false)(dd:Option Addr)(ep:Nat)(sl:Array (Option Value)):Meets (Builtin.«dict.__eq__» ⟨[.ref d,.ref d],[]⟩) (λ_ R s=>s.heap.get? d=some ⟨.type "dict",dd,.dict #[] ep,sl⟩/\R (.ok (.ret (.bool true))) s):=by
 intro prog w A R s hs;obtain⟨h,g,dp,tt,os⟩:=s;obtain⟨ho,q⟩:=hs;have hT:(⟨h,g,dp,tt,os⟩:Shared).TypeIs (.ref d) "dict":=⟨_,ho,rfl⟩;unfold Builtin.«dict.__eq__»
 k_delta "equality"
 unfold Builtin.Dict.dictSlotArgs;refine ad (ad (wpAny_notOrdered_dict hT ?_));show wpAny _ _ (pure (Value.ref d,[Value.ref d]) >>= _) _ _ _;refine ad (am (am ?_));have hi:=PySem.F.kt_sub_dict;show wpAny _ _ (isInstance (.ref d) (.type "dict") >>= _) _ _ _;unfold Builtin.Dict.samePairs;simp only[Std.Legacy.Range.forIn_eq_forIn_range']
 repeat(any_goals first|assumption|wp_step)
variable {A:Around}{dd:Option Addr}{sl:Array (Option Value)}
def JP (hd:(d ==sysModules)=false){ep:Nat}(ho:s.heap.get? d=some ⟨.type "dict",dd,.dict #[] ep,sl⟩) (hu:A.units<cLine):SeqAt.RcAt A s (.ref d) (.ref d) true:=λprog w E Q h=>
 richCompare_meets_room (op:=.Eq) ⟨_,ho,rfl⟩ ⟨_,ho,rfl⟩ PySem.F.slot_dict_eq PySem.F.entry_dict_eq (PySem.F.args_dict_eq_2 _ _) (JQ d hd dd ep sl) ⟨ho,show Value.bool true≠Value.notImplemented/\Q (.bool true) s from⟨(λx=>nomatch x),h⟩⟩ hu
abbrev A8 (K:W.Frag)(H:Hp)(a:Addr):Prop:=(∃ xs,bb K H a xs)\/(∃ xs,bp K H a xs)\/H a=some (.dK [])
def Dc {a:Addr}(I:Inv X Y U H s)(h:A8 X.K H a)(hu:A.units+2<cLine):SeqAt.RcAt A s (.ref a) (.ref a) true:=by
 rcases h with⟨xs,h⟩|⟨xs,h⟩|h
 .obtain⟨ia,ra,pa,_⟩:=I.list h;have rc:=SeqAt.RcAt.lists (A:=A) (e:=λ_=>true) pa.isList pa.isList rfl nofun λj h1 h2=>SeqAt.EqAt.same _
  have e:(List.range ia.toArray.size).all (λ_=>true)=true:=by simp
  rwa [e]at rc
 .obtain⟨ia,ra,pa,_⟩:=I.tuple h;have rc:=SeqAt.RcAt.tuples (A:=A) (e:=λ_=>true) (show s.heap.IsTuple a ia.toArray from pa) (show s.heap.IsTuple a ia.toArray from pa) nofun λj h1 h2=>SeqAt.EqAt.same _
  have e:((List.range (min ia.toArray.size ia.toArray.size)).all (λ_=>true)&&ia.toArray.size ==ia.toArray.size)=true:=by simp
  rwa [e]at rc
 .obtain⟨z,hd,vs,rel,dd⟩:=j7 I.hok (.inl h);cases rel;obtain⟨⟨c,d,da,sl⟩,es,ep,ho,hx,he,_,hp,_⟩:=dd;have e0:es=#[]:=by
   cases hp':es.toList with
   |nil=>exact Array.toList_eq_nil_iff.mp hp'
   |cons a b=>rw[hp']at hp;cases hp
  subst e0;obtain rfl:da=.dict #[] ep:=he;obtain⟨rfl,_⟩:=hx;exact JP hd ho nofun
section
variable {prog:Program}{w:World}{A:Around}{E:NV}{s:Shared}{T:String}{r d:Addr}{n:Nat}{P:Nat->Value->Prop}{OK:Heap->Prop}
def rL {Q:List Value->Shared->Prop}(K:KdlSrc prog w T r d n P OK)(hh:A.handled=none)(hok:OK s.heap)(hn:n<=bv)
  (hQ:∀ h' tk (acc:Array Value),(∀ b o,s.heap.get? b=some o->h'.get? b=some o)->ItemsOf P acc n->Q acc.toList { s with heap:=h',toks:=tk }):wpAny (model prog w) A (collect (.ref r)) Q E s:=by
 have hlt:=K.there _ hok;unfold collect;refine ad (wpAny_runValue (codeAny_builtin PySem.F.entry_proto_collect ?_));rw[Around.under_plainId PySem.F.plain_proto_collect _];show wpAny _ A.in1 (newList [] >>= λz=>again (.builtin "list.__iadd__" ⟨[z,.ref r],[]⟩)) _ _ s;refine ad (wpAny_newObj_type (am ⟨plainId_quiet PySem.F.plain_list_iadd _,codeAny_builtin PySem.F.entry_list_iadd ?_⟩));rw[Around.under_plainId PySem.F.plain_list_iadd _];show wpAny _ A.in1 (Builtin.List.listExtendWith (.ref s.heap.objs.size) (.ref r) (.ref s.heap.objs.size)) _ _ _;have hS:(s.heap.push { cls:=.type "list",data:=.seq ([]:List Value).toArray }).get? s.heap.objs.size=some { cls:=.type "list",data:=.seq #[] 0 }:=v4 s.heap rfl;have fin:∀ (x:Result) (s':Shared),(x=.ok (.ret (.ref s.heap.objs.size))/\∃ h' tk acc c',s'={ s with heap:=h',toks:=tk }/\(∀ b o,s.heap.get? b=some o->h'.get? b=some o)/\h'.get? s.heap.objs.size=some { cls:=.type "list",dict:=none,data:=.seq acc c',slots:=#[] }/\ItemsOf P acc n)->
   wpAny (model prog w) A (match Value.ref s.heap.objs.size with
    |Value.ref a=>do
     match (<-load a).data with
      |Data.seq xs _=>pure xs.toList
      |_=>unsupported "internal:collect"
    |_=>unsupported "internal:collect") Q E s':=λx s' ⟨_,h',tk,acc,c',e,hk,ho,hi⟩=>by
  subst e;show wpAny _ A (load s.heap.objs.size >>= _) _ _ _;exact ad (wpAny_load ho (am (hQ h' tk acc hk hi)))
 refine wpAny_mono (kdl_extend (A:=A) (s:={ s with heap:=s.heap.push { cls:=.type "list",data:=.seq ([]:List Value).toArray } })
  (R:=λx s'=>x=.ok (.ret (.ref s.heap.objs.size))/\∃ h' tk acc c',s'={ s with heap:=h',toks:=tk }/\(∀ b o,s.heap.get? b=some o->h'.get? b=some o)/\h'.get? s.heap.objs.size=some { cls:=.type "list",dict:=none,data:=.seq acc c',slots:=#[] }/\ItemsOf P acc n)
  K hh (K.keep _ _ hok λb _ o e=>ut _ e) s.heap.objs.size (Nat.ne_of_gt hlt.1) (Nat.ne_of_gt hlt.2) (.ref s.heap.objs.size) 0 hS (λh' tk acc c' hk ho hi=>⟨rfl,h',tk,acc,c',rfl,λb o e=>hk b o (sn (v0 e)) (ut _ e),ho,hi⟩) hn) (λfi s' h=>?_) (λe s' h=>?_)
 .cases fi with
  |done f=>
   have hf:=h.1;cases hf;exact fin _ _ h
  |again c'=>exact⟨h.1,codeAny_mono h.2 λx s'' hx=>by
    have e:=hx.1;subst e;exact fin _ _ hx⟩
 .exact absurd h.1 (by simp)
def nG {Q₁:NV}(K:KdlSrc prog w T r d n P OK)(hT0:(T =="tuple")=false) (hh:A.handled=none) (hok:OK s.heap) (hn:n<=bv)
  (h:∀ (h':Heap) (tk:Nat) (acc:Array Value),(∀ b o,s.heap.get? b=some o->h'.get? b=some o)->ItemsOf P acc n->Q₁ (.ref h'.objs.size) { s with heap:=h'.push { cls:=.type "tuple",data:=.seq acc },toks:=tk }):
  codeAny (model prog w) A (.call (.builtin "tuple.__new__") ⟨[.type "tuple",.ref r],[]⟩) (wants Q₁ E) s:=by
 refine codeAny_of_tree ?_;show wpAny _ A.in1 (do checkBuiltinCall "tuple.__new__" ⟨[.type "tuple",.ref r],[]⟩;again (.builtin "tuple.__new__" ⟨[.type "tuple",.ref r],[]⟩)) _ _ s;refine ad (wpAny_of_eq (PySem.F.newCall_tuple_1 _) (am ⟨plainId_quiet PySem.F.plain_tuple_new _,codeAny_builtin PySem.F.entry_tuple_new ?_⟩));rw[Around.under_plainId PySem.F.plain_tuple_new _];have h1:=sub_tuple_self;have h2:=init_tuple_lookup;have h3:=madeHere_tuple;have hTI:=K.type s hok;have h4:=K.notTuple
 wp_walk using wpAny_typeOf hTI,rL (A:=A.in1) K hh hok hn
 intro h' tk acc hk hi;show wpAny _ _ (Builtin.Tuple.tupleExact acc.toList.toArray >>= λz=>ret z) _ _ _;unfold Builtin.Tuple.tupleExact;have e:acc.toList.toArray=acc:=Array.toArray_toList;rw[e];refine ad (wpAny_newObj_type (am ?_) (by show acc.size<=bv;rw[hi.1];exact hn));exact h h' tk acc hk hi
def mj {Q:NV}(K:KdlSrc prog w T r d n P OK)(hT0:(T =="tuple")=false) (hh:A.handled=none) (hok:OK s.heap) (hn:n<=bv)
  (h:∀ (h':Heap) (tk:Nat) (acc:Array Value),(∀ b o,s.heap.get? b=some o->h'.get? b=some o)->ItemsOf P acc n->Q (.ref h'.objs.size) { s with heap:=h'.push { cls:=.type "tuple",data:=.seq acc },toks:=tk }):
  wpAny (model prog w) A (call (.type "tuple") [.ref r]) Q E s:=by
 refine callType_codes (Q₁:=λz s₁=>s₁.TypeIs z "tuple"/\Q z s₁) PySem.F.called_tuple (PySem.F.typeCall_tuple_1 _) PySem.F.entry_object_init (nG K hT0 hh hok hn λh' tk acc hk hi=>⟨⟨_,v4 _ rfl,rfl⟩,h h' tk acc hk hi⟩) λz s₁ g=>?_
 exact⟨g.1,PySem.F.args_object_init_2 z _,object_init_meets PySem.F.called_tuple.init.lookup PySem.F.called_tuple.made (by decide) prog w A.in1 _ s₁ ⟨g.1,rfl,g.2⟩⟩
end
def yO:bootBuiltins "list"=some (.type "list"):=by decide+kernel
def wW:bootBuiltins "tuple"=some (.type "tuple"):=by decide+kernel
abbrev FL (tp:Bool)(xs:List V):HO:=match tp with
 |true=>.tup xs
 |false=>.lst xs
abbrev jD (tp:Bool):String:=match tp with
 |true=>"tuple"
 |false=>"list"
abbrev Dp (tp:Bool):Str:=match tp with
 |true=>"tuple"
 |false=>"list"
abbrev EF (tp:Bool)(x:V)(H:Hp)(Q:VK):Prop:=∃ d kvs,x=.ref d/\H d=some (.dK kvs)/\∀ p,H p=none->Q (.ref p) (upd H p (FL tp (kvs.map (·.2))))
def qA:∀ {kvs:List (Key×V)}{vs:List (Key×Value)},KV kvs vs->Vals (kvs.map (·.2)) (vs.map (·.2))
 |_,_,.nil=>.nil
 |_,_,.cons r rs=>.cons r.2 (qA rs)
def xP {Q:VK}{kvs:List (Key×V)}(tp:Bool)(hc:X.calm=true)(I:Inv X Y U H s)(e:H d=some (.dK kvs))(q:∀ p,H p=none->Q (.ref p) (upd H p (FL tp (kvs.map (·.2))))):
  wpAny (model X.prog X.w) X.A (call (.builtin "dict.values") [.ref d]) (λv s1=>wpAny (model X.prog X.w) X.A (call (.type (jD tp)) [v]) (EP X Y U Q) X.xe s1) X.xe s:=by
 obtain⟨hz,hd,vs,rel,dd⟩:=j7 I.hok (.inl e);refine call_meetsIn PySem.F.slot_dict_values dd.typeIs PySem.F.entry_dict_values (PySem.F.args_dict_values_1 _) (meets_dict_values (aA X.prog X.w) d hd) ⟨⟨vs,dd⟩,?_⟩;obtain⟨o,es,ep,ho,hx,he,hk,hp,hn⟩:=dd;have hA:s.heap.DictAt (aA X.prog X.w) d vs ep:=⟨o,es,ho,hx,he,hk,hp,hn⟩;have hok:(s.heap.push { cls:=.type "dict_values",data:=.fields #[.ref d] }).IsValuesView s.heap.objs.size d/\(s.heap.push { cls:=.type "dict_values",data:=.fields #[.ref d] }).DictAt (aA X.prog X.w) d vs ep:=⟨⟨_,v4 _ rfl,rfl,rfl⟩,hA.push _⟩;have hl:vs.length<=bv:=by rw[<-rel.length];exact hz
 have hv:∀ (acc:Array Value),ItemsOf (λi v=>∃ k,vs[i]? =some (k,v)) acc vs.length->acc.toList=vs.map (·.2):=λacc hi=>kdl_vals_eq acc.toList (by rw[Array.length_toList];exact hi.1) λj v hj=>hi.2 j v (by rw[<-Array.getElem?_toList];exact hj)
 have I0:Inv X Y U H { s with heap:=s.heap.push { cls:=.type "dict_values",data:=.fields #[.ref d] } }:=I.kept (t':=s.toks) λb u hb=>ut _ hb
 have hlen:(kvs.map (·.2)).length<=bv:=by rw[ci];exact hz
 cases tp with
 |false=>
  refine kdl_call (s:={ s with heap:=s.heap.push { cls:=.type "dict_values",data:=.fields #[.ref d] } }) (kdl_values (prog:=X.prog) (w:=X.w) (knd:=aA X.prog X.w) (r:=s.heap.objs.size) (d:=d) (kvs:=vs) (ep:=ep)) (I.ok.hd hc) hok hl λh' tk acc c' hk' hD hi=>?_
  have ea:=hv acc hi;refine⟨.ref _,_,I0.laid (t':=tk) hk' (sw _) (show aP X.prog X.w _ h' _ (.lst (kvs.map (·.2))) from⟨hlen,acc.toList,c',by rw[ea];exact qA rel,by rw[Array.toArray_toList];exact hD⟩),rfl,q _ (I0.hok.fresh (sw _))⟩
 |true=>
  refine mj (s:={ s with heap:=s.heap.push { cls:=.type "dict_values",data:=.fields #[.ref d] } }) (kdl_values (prog:=X.prog) (w:=X.w) (knd:=aA X.prog X.w) (r:=s.heap.objs.size) (d:=d) (kvs:=vs) (ep:=ep)) (by decide) (I.ok.hd hc) hok hl λh' tk acc hk' hi=>?_
  have ea:=hv acc hi;have I1:Inv X Y U H { s with heap:=h',toks:=tk }:=I0.kept (t':=tk) hk';have I2:Inv X Y U (upd H h'.objs.size (.tup (kvs.map (·.2)))) { s with heap:=h'.push { cls:=.type "tuple",data:=.seq acc },toks:=tk }:=
   I1.laid (t':=tk) (λb u hb=>ut _ hb) (sw _) (show aP X.prog X.w _ _ _ (.tup (kvs.map (·.2))) from⟨hlen,acc.toList,by rw[ea];exact qA rel,by rw[Array.toArray_toList];exact IsTup.new _ _⟩)
  exact⟨.ref h'.objs.size,_,I2,rfl,q _ (I1.hok.fresh (sw _))⟩
abbrev JZ (tp:Bool)(ta:TE):TE:=λU H Q=>ta U H λx H1=>EF tp x H1 Q
def B6 {a:Expr}{ta:TE}{apos cpos:Pos}(tp:Bool)(hc:X.calm=true)(hg:Gl X (Dp tp))(hm:X.mg (Dp tp)=none)(ha:PE X a ta)(hb:attributeBase a "values" X.env (eval a X.env)=eval a X.env) (hl:(apos.endLine ==cpos.line)=true):
  PE X (.Call (.Name (Dp tp) p) [.Call (.Attribute a "values" apos) [] [] cpos] [] pos) (JZ tp ta):=by
 intro Y s U H Q I h;have h1:bn [.Call (.Attribute a "values" apos) [] [] cpos] X.env=[(false,eval (.Call (.Attribute a "values" apos) [] [] cpos) X.env)]:=rfl;have go:wpAny (model X.prog X.w) X.A (eval (.Call (.Attribute a "values" apos) [] [] cpos) X.env) (λv s1=>wpAny (model X.prog X.w) X.A (call (.type (jD tp)) [v]) (EP X Y U Q) X.xe s1) X.xe s:=by
  refine wpAny_Call_method0_late hb hl (aD (ha Y s U H _ I h) λv s1 ⟨x,H1,I1,r1,q1⟩=>?_);obtain⟨d,kvs,ex,e,q⟩:=q1;subst ex;obtain⟨g1,g2⟩:=tV (T:="dict") I1 r1 (.inr (.inr (.inl ⟨rfl,.inl ⟨kvs,e⟩⟩)));cases r1;exact⟨"dict","dict.values",PySem.F.plainAttrs_dict,PySem.F.slot_dict_values,PySem.F.type_dict_values,g1,g2,Calls.callWith_builtin rfl (PySem.evalArgs_none (xP tp hc I1 e q))⟩
 cases tp with
 |true=>
  refine Call_ (cW I hg hm wW (PyProof.Rows.callWith_type1 ?_ h1 rfl));rw[h1];show wpAny _ _ (spliced ((false,eval (.Call (.Attribute a "values" apos) [] [] cpos) X.env)::backTo pos [])) _ _ _;exact Calls.spliced_cons (aD go λv s1 z=>Calls.spliced_nil z)
 |false=>
  refine Call_ (cW I hg hm yO (PyProof.Rows.callWith_type1 ?_ h1 rfl));rw[h1];show wpAny _ _ (spliced ((false,eval (.Call (.Attribute a "values" apos) [] [] cpos) X.env)::backTo pos [])) _ _ _;exact Calls.spliced_cons (aD go λv s1 z=>Calls.spliced_nil z)
abbrev Ba (K:W.Frag)(C:Addr):Bool:=findIn K (.ref C) "__eq__" ==some (some (.builtin "object.__eq__"))&&subIn K (.ref C) (.type "str") ==some false&&subIn K (.ref C) (.type "object") ==some true
def vd {prog:Program}{w:World}{K:Frag}{C:Addr}{R:Result->Shared->Prop}(X:K.In s.heap)(hm:makesIn K C=true)(hi:findIn K (.ref C) "__init__"=some (some (.builtin "object.__init__")))
  (h:R (.ok (.ret (.ref (s.heap.objs.size+1)))) { s with heap:=(s.heap.push emptyDict).push (instObj C s.heap.objs.size) }):codeAny (model prog w) A (.call (.ref C) ⟨[],[]⟩) R s:=by
 obtain⟨hh,g,d,t,os⟩:=s;have Y:=makes_of (M:=model prog w) X hm;refine make_core Y (looks_findIn X hi) (λz=>Looks.of_pure (oi_bind z)) (.inr ⟨rfl,rfl⟩) ?_;have k:∀ b o,hh.get? b=some o->((hh.push emptyDict).push (instObj C hh.objs.size)).get? b=some o:=λb o e=>ut _ (ut _ e)
 have hx:((hh.push emptyDict).push (instObj C hh.objs.size)).get? (hh.objs.size+1)=some (instObj C hh.objs.size):=by heap_get
 have t1:Looks (model prog w) ((hh.push emptyDict).push (instObj C hh.objs.size)) (typeOf (.ref (hh.objs.size+1))) (.ref C):=Looks.andThen (Looks.ld hx) .now;have t2:Looks (model prog w) ((hh.push emptyDict).push (instObj C hh.objs.size)) (isInstance (.ref (hh.objs.size+1)) (.type "object")) true:=t1.andThen (Y.top.keeps k);refine codeAny_call_builtin oi_plain entry_oi (@check_slot (model prog w) _ _ _ "object.__init__" "object" "__init__" (.ref (hh.objs.size+1)) [] [] _ oi_kind oi_split t2 (oi_args _) ?_);rw[oi_run];exact am ⟨rfl,h⟩
structure MW (K:Frag) (C:Addr):Prop where
 makes:makesIn K C=true
 init:findIn K (.ref C) "__init__"=some (some (.builtin "object.__init__"))
 kp:keepIn K (.ref C)=true
abbrev LJ (C:Addr):TE:=λ_ H Q=>∀ x dx,H x=none->H dx=none->dx≠x->Q (.ref x) (upd (upd H dx (.own x)) x (.ins C dx []))
def Ai {C:Addr}{x:Str}(M:MW X.K C)(hg:Gl X x)(hm:X.mg x=some (.ref C))(hdb:(x ==("__debug__":Str))=false):PE X (.Call (.Name x p) [] [] pos) (LJ C):=by
 intro Y s U H Q I h;refine ce (bH I hg hm ?_ hdb);refine W.callWith_K0 I.bV M.kp (wpAny_call (vd I.bV M.makes M.init ?_));have I2:=Inv.made (C:=C) I;exact⟨.ref (s.heap.objs.size+1),_,I2,rfl,h (s.heap.objs.size+1) s.heap.objs.size (I.hok.fresh (Nat.le_succ _)) (I.hok.fresh (sw _)) (sn (Nat.lt_succ_self _))⟩
@[reducible]def VV:List (V×V)->List (Value×Value)->Prop:=Paired λp q=>RelV p.1 q.1/\RelV p.2 q.2
abbrev PQ (X:Cx)(pos:Pos)(keys:List (Option Expr))(values:List Expr)(t:St->Hp->(List (V×V)->Hp->Prop)->Prop):Prop:=
 ∀ (Y:NW) (s:Shared) (U:St) (H:Hp) (Q:List (V×V)->Hp->Prop),Inv X Y U H s->t U H Q->
  wpAny (model X.prog X.w) X.A (evalPairs (pairTrees keys values X.env pos)) (λvs s'=>∃ ps H',Inv X Y U H' s'/\VV ps vs/\Q ps H') X.xe s
def G7:PQ X pos [] [] (λ_ H Q=>Q [] H):=λY s U H Q I h=>pairTrees_nil_walk ⟨[],H,I,.nil,h⟩
variable {t:St->Hp->(List (V×V)->Hp->Prop)->Prop}{vs:List Expr}
def CN {k v:Expr}{ks:List (Option Expr)}{tk tv:TE}(hk:PE X k tk)(hv:PE X v tv)(hr:PQ X pos ks vs t):
  PQ X pos (some k::ks) (v::vs) (λU H Q=>tk U H λx H1=>tv U H1 λy H2=>t U H2 λps H3=>Q ((x,y)::ps) H3):=λY s U H Q I h=>
 pairTrees_cons_walk (aD (hk Y s U H _ I h) λu s1 ⟨x,H1,I1,rx,q1⟩=>aD (hv Y s1 U H1 _ I1 q1) λw2 s2 ⟨y,H2,I2,ry,q2⟩=>
  aD (hr Y s2 U H2 _ I2 q2) λws s3 ⟨ps,H3,I3,rel,q3⟩=>⟨(x,y)::ps,H3,I3,.cons ⟨rx,ry⟩ rel,q3⟩)
abbrev gK (kvs more:List (Key×V)):List (Key×V):=more.foldl (λacc kv=>putK acc kv.1 kv.2) kvs
def KV.merge:∀ {more:List (Key×V)}{rs:List (Key×Value)}{kvs:List (Key×V)}{vs:List (Key×Value)},KV more rs->KV kvs vs->KV (gK kvs more) (merged vs rs):=by
 intro more rs kvs vs r;unfold KV at r
 induction r generalizing kvs vs with
 |nil=>intro q;exact q
 | @cons p q ps qs h t ih=>
  intro r0;have e:KV (putK kvs p.1 p.2) (stored vs q.1 q.2):=by
   have:=r0.put p.1 h.2;rw[<-h.1];exact this
  exact ih e
def gI:∀ (more kvs:List (Key×V)),(gK kvs more).length<=kvs.length+more.length
 | [],kvs=>by show kvs.length<=kvs.length+0;omega
 |p::r,kvs=>by
  have h1:=gI r (putK kvs p.1 p.2);have h2:=fM kvs p.1 p.2;show(gK (putK kvs p.1 p.2) r).length<=_;rw[length_cons];omega
def lC {P:Program}{w:World}:∀ {kvs:List (Key×V)}{ws:List (Value×Value)},VV (kvs.map λkv=>(kV kv.1,kv.2)) ws->∃ rs,Carries (aA P w) ws rs/\KV kvs rs
 | [],_,r=>by rw[List.map_nil]at r;cases r;exact⟨[],True.intro,.nil⟩
 |p::kvs,_,r=>by
  rw[map_cons]at r;cases r with
  | @cons a b as bs h t=>
   obtain⟨rs,c,q⟩:=lC (P:=P) (w:=w) t;obtain⟨b1,b2⟩:=b;exact⟨(p.1,b2)::rs,⟨oM h.1,rfl,c⟩,.cons ⟨rfl,h.2⟩ q⟩
abbrev Ji (t:St->Hp->(List (V×V)->Hp->Prop)->Prop):TE:=λU H Q=>∀ p,H p=none->t U (upd H p (.dK [])) λps H2=>H2 p=some (.dK [])/\∃ kvs:List (Key×V),ps=kvs.map (λkv=>(kV kv.1,kv.2))/\kvs.length<=15/\Q (.ref p) (upd H2 p (.dK (gK [] kvs)))
def Cs {keys:List (Option Expr)}{values:List Expr}(h:PQ X pos keys values t)(hall:keys.all (·.isSome)=true)(hl:keys.length=values.length)(h0:keys≠[])
  (h15:keys.length<=15):PE X (.Dict keys values pos) (Ji t):=by
 intro Y s U H Q I q;have hn:=I.hok.fresh (sw s.heap.objs.size);have I1:=I.laid (a:=s.heap.objs.size) (o:=.dK []) (h':=s.heap.push { cls:=.type "dict",data:=.dict #[] }) (t':=s.toks) (λ_ _ q=>ut _ q) (sw _) (AR s.heap I.big);refine wpAny_Dict_walk (knd:=aA X.prog X.w) hall hl h0 h15 (aD (h Y _ U _ _ I1 (q _ hn)) λws s2 ⟨ps,H2,I2,rel,e,kvs,ep,lk,q2⟩=>?_);subst ep;obtain⟨rs,c,rk⟩:=lC (P:=X.prog) (w:=X.w) rel;obtain⟨z,hd,vs0,r0,dd⟩:=vx I2.hok e;cases r0;refine⟨rs,c,dd,λh' dd' hs=>⟨.ref s.heap.objs.size,_,?_,rfl,q2⟩⟩;have hz:(gK [] kvs).length<=bv:=by
  have h1:=gI kvs [];rw[length_nil]at h1;rw[sizeLine_eq];omega
 have he:∃ q,h'.get? s.heap.objs.size=some q:=let⟨q,_,_,hq,_⟩:=dd';⟨q,hq⟩;exact qi I2 (by rw[e];exact True.intro) hs he (ve hz hd (rk.merge .nil) dd')
abbrev BK:Expr->Nat
 | .Tuple vs _ _=>vs.length
 |_=>0
abbrev HV (sc:Scope)(tg v:Expr)(ns:List Str):Bool:=match swappedStores [tg] v { scope:=sc,locals:=0,globals:=0,cells:=[] } with
 | .pure (some l)=>l ==ns&&decide (BK v=ns.length)
 |_=>false
variable {tg:Expr}{ns:List Str}
def BQ {env:Env}{v:Expr}(h:HV env.scope tg v ns=true):swappedStores [tg] v env=pure (some ns):=by
 have e:swappedStores [tg] v env=swappedStores [tg] v { scope:=env.scope,locals:=0,globals:=0,cells:=[] }:=by
  obtain⟨sc,a,b,c,d,f,g,i,j⟩:=env
  rfl
 rw[e];unfold HV at h
 split at h
 .rename_i l e2;rw[ol]at h;rw[e2,beq_iff_eq.mp h.1]
  rfl
 .cases h
variable {sc:Scope}
def vS {v:Expr}(h:HV sc tg v ns=true):BK v=ns.length:=by
 unfold HV at h
 split at h
 .rw[ol,decide_eq_true_eq]at h;exact h.2
 .cases h
def C2 {x y:Str}(h:HV sc tg (.Tuple vs k p) [x,y]=true):∃ a b,vs=[a,b]:=by
 have h:=vS h
 match vs,h with
 | [a,b],_=>exact⟨a,b,rfl⟩
def xE {x y z:Str}(h:HV sc tg (.Tuple vs k p) [x,y,z]=true):∃ a b c,vs=[a,b,c]:=by
 have h:=vS h
 match vs,h with
 | [a,b,c],_=>exact⟨a,b,c,rfl⟩
abbrev IL (i j:Nat)(ta:TA):TS:=λD U H=>ta U H λvs H1=>∃ v w,vs=[v,w]/\D.nx ((U.set i (some v)).set j (some w)) H1
def CJ {i j:Nat}{x y:Str}{a b:Expr}{px py pt:Pos} {kt k2 pt2} (hc:X.calm=true)(hN:X.N.Nodup)(hi:X.N[i]? =some x)(hj:X.N[j]? =some y)(hij:i≠j)
  (hx:X.env.scope.names.lookup x=some .local) (hy:X.env.scope.names.lookup y=some .local) (ha:PA X [a,b] ta)
  (hw:swappedStores [.Tuple [.Name x px,.Name y py] kt pt] (.Tuple [a,b] k2 pt2) X.env=pure (some [x,y]))
  (hs:swapsWithSole [.Tuple [.Name x px,.Name y py] kt pt] (.Tuple [a,b] k2 pt2) pos.line X.env=pure false:=by rfl):
  PS X (.Assign [.Tuple [.Name x px,.Name y py] kt pt] (.Tuple [a,b] k2 pt2) pos) (IL i j ta):=by
 intro Y s U H D I h;rw[exec_Assign_arm];refine ad (wpAny_standAt ?_);rw[hs];refine ad (am ?_);rw[if_neg (by decide)];refine ad (Tuple_ (aD (ha _ Y s U H _ I h) λus s1 ⟨vs,H1,I1,r1,q1⟩=>?_));obtain⟨v,w,e1,q1⟩:=q1;subst e1;obtain⟨u1,u2,rfl,rv,rw'⟩:∃ u1 u2,us=[u1,u2]/\RelV v u1/\RelV w u2:=by
  cases r1 with
  |cons p q=>
   cases q with
   |cons p' q'=>
    cases q';exact⟨_,_,rfl,p,p'⟩
 refine wpAny_newObj_type ?_ (by show 2<=bv;decide);have I2:Inv X Y U H1 { s1 with heap:=s1.heap.push { cls:=.type "tuple",data:=.seq [u1,u2].toArray } }:=I1.kept (t':=s1.toks) λb o e=>ut _ e
 rw[hw];refine ad (am ?_);show wpAny (model X.prog X.w) X.A (do rule "assign.swapped-stores";let items <-unpackItems (.ref s1.heap.objs.size) 2 none;assignInOrder [λv=>bindName X.env y v,λv=>bindName X.env x v] items.reverse;pure Flow.next) _ _ _;refine ad (wpAny_rule (ad (unpackItems_tuple (items:=#[u1,u2]) (I.ok.hd hc) (IsTup.new s1.heap _) λh' hx'=>?_)));have I3:=I2.kept (h':=h') (t':=s1.toks) λb o e=>hx' b o (sn (v0 e)) e
 show wpAny _ _ (assignInOrder [λv=>bindName X.env y v,λv=>bindName X.env x v] [u2,u1] >>= λ_=>pure Flow.next) _ _ _;refine ad (assignInOrder_cons (wpAny_bindName (bR I3 hN hj (.inl hy) rw' (λs2 I4=>?_) (.inr hy))));refine assignInOrder_cons (wpAny_bindName (bR I4 hN hi (.inl hx) rv (λs3 I5=>assignInOrder_nil (am ?_)) (.inr hx)));rw[set_comm _ _ (Ne.symm hij)]at I5;exact⟨_,H1,I5,q1⟩
abbrev KL (i j l:Nat)(ta:TA):TS:=λD U H=>ta U H λvs H1=>∃ v w x,vs=[v,w,x]/\D.nx (((U.set i (some v)).set j (some w)).set l (some x)) H1
def Em {i j l:Nat}{x y z:Str}{a b c:Expr}{px py pz pt:Pos} {kt k2 pt2} (hc:X.calm=true)(hN:X.N.Nodup)(hi:X.N[i]? =some x)(hj:X.N[j]? =some y)(hl:X.N[l]? =some z)(hij:i≠j)(hil:i≠l)(hjl:j≠l)
  (hx:X.env.scope.names.lookup x=some .local) (hy:X.env.scope.names.lookup y=some .local) (hz:X.env.scope.names.lookup z=some .local) (ha:PA X [a,b,c] ta)
  (hw:swappedStores [.Tuple [.Name x px,.Name y py,.Name z pz] kt pt] (.Tuple [a,b,c] k2 pt2) X.env=pure (some [x,y,z]))
  (hs:swapsWithSole [.Tuple [.Name x px,.Name y py,.Name z pz] kt pt] (.Tuple [a,b,c] k2 pt2) pos.line X.env=pure false:=by rfl):
  PS X (.Assign [.Tuple [.Name x px,.Name y py,.Name z pz] kt pt] (.Tuple [a,b,c] k2 pt2) pos) (KL i j l ta):=by
 intro Y s U H D I h;rw[exec_Assign_arm];refine ad (wpAny_standAt ?_);rw[hs];refine ad (am ?_);rw[if_neg (by decide)];refine ad (Tuple_ (aD (ha _ Y s U H _ I h) λus s1 ⟨vs,H1,I1,r1,q1⟩=>?_));obtain⟨v,w,x',e1,q1⟩:=q1;subst e1;obtain⟨u1,u2,u3,rfl,rv,rw',rx'⟩:∃ u1 u2 u3,us=[u1,u2,u3]/\RelV v u1/\RelV w u2/\RelV x' u3:=by
  cases r1 with
  |cons p q=>
   cases q with
   |cons p' q'=>
    cases q' with
    |cons p2 q2=>
     cases q2;exact⟨_,_,_,rfl,p,p',p2⟩
 refine wpAny_newObj_type ?_ (by show 3<=bv;decide);have I2:Inv X Y U H1 { s1 with heap:=s1.heap.push { cls:=.type "tuple",data:=.seq [u1,u2,u3].toArray } }:=I1.kept (t':=s1.toks) λb o e=>ut _ e
 rw[hw];refine ad (am ?_);show wpAny (model X.prog X.w) X.A (do rule "assign.swapped-stores";let items <-unpackItems (.ref s1.heap.objs.size) 3 none;assignInOrder [λv=>bindName X.env z v,λv=>bindName X.env y v,λv=>bindName X.env x v] items.reverse;pure Flow.next) _ _ _;refine ad (wpAny_rule (ad (unpackItems_tuple (items:=#[u1,u2,u3]) (I.ok.hd hc) (IsTup.new s1.heap _) λh' hx'=>?_)));have I3:=I2.kept (h':=h') (t':=s1.toks) λb o e=>hx' b o (sn (v0 e)) e
 show wpAny _ _ (assignInOrder [λv=>bindName X.env z v,λv=>bindName X.env y v,λv=>bindName X.env x v] [u3,u2,u1] >>= λ_=>pure Flow.next) _ _ _;refine ad (assignInOrder_cons (wpAny_bindName (bR I3 hN hl (.inl hz) rx' (λs2 I4=>?_) (.inr hz))));refine assignInOrder_cons (wpAny_bindName (bR I4 hN hj (.inl hy) rw' (λs3 I5=>?_) (.inr hy)));refine assignInOrder_cons (wpAny_bindName (bR I5 hN hi (.inl hx) rv (λs4 I6=>assignInOrder_nil (am ?_)) (.inr hx)));rw[set_comm _ _ (Ne.symm hij),set_comm _ _ (Ne.symm hil),set_comm _ _ (Ne.symm hjl)]at I6;exact⟨_,H1,I6,q1⟩
abbrev ua (K:W.Frag)(C:Addr):Bool:=findIn K (.ref C) "__ne__" ==some (some (.builtin "object.__ne__"))&&Ba K C
section
variable {A:Around}{s:Shared}{l C dx:Addr}{od:Option Obj}{K:W.Frag}{prog:Program}{w:World}{E:NV}
def J9 (X:K.In s.heap)(I:InstAt s.heap l (instObj C dx) C od)(h1:findIn K (.ref C) "__eq__"=some (some (.builtin "object.__eq__"))) (h3:subIn K (.ref C) (.type "object")=some true) (h:Q (some (.bool true)) s):wpAny (model prog w) A (callSpecialIfBound? (.ref l) "__eq__" [.ref l]) Q E s:=by
 simp only[callSpecialIfBound?,bindSpecialIfBound?];refine bd (ad (ad (ad (I.type.here ((looks_findIn X h1).here ?_)))));simp only[PySem.F.cmp_object.eq.bind];have fin:wpAny (model prog w) A (call (.builtin "object.__eq__") ([.ref l]++[.ref l]) >>= λv=>pure (some v)) Q E s:=by
  refine ad (wpAny_call (codeAny_call_builtin PySem.F.cmp_object.eq.plain PySem.F.cmpEntry_eq ?_));simp only[checkBuiltinCall,PySem.F.cmpKind_eq,PySem.F.cmpSplit_eq];refine ad (ad (I.type.here ((looks_subIn X h3).here ?_)));rw[if_neg (by simp)];have ha:=PySem.F.cmpArgs_eq (.ref l) (.ref l);have h0:(match Manifest.signature? "object.__eq__" with|some sig=>Bind.checkArgs "object.__eq__" sig { pos:=[Value.ref l]++[Value.ref l] }|x=>pure ())=pure ():=ha;refine wpAny_of_eq h0 ?_;exact objEq_entry_same (am h)
 refine ad (wpAny_askSetting (wpAny_ite ?_))
 split
 .exact ad (am (am fin))
 .exact wpAny_tryCatch (ad (am (am fin)))
def K1 (X:K.In s.heap)(I:InstAt s.heap l (instObj C dx) C od)(h1:findIn K (.ref C) "__eq__"=some (some (.builtin "object.__eq__"))) (h2:findIn K (.ref C) "__ne__"=some (some (.builtin "object.__ne__"))) (h3:subIn K (.ref C) (.type "object")=some true) (hu:A.units+2<cLine) (h:Q (some (.bool false)) s):wpAny (model prog w) A (callSpecialIfBound? (.ref l) "__ne__" [.ref l]) Q E s:=by
 simp only[callSpecialIfBound?,bindSpecialIfBound?];refine bd (ad (ad (ad (I.type.here ((looks_findIn X h2).here ?_)))));simp only[PySem.F.cmp_object.ne.bind];have fin:wpAny (model prog w) A (call (.builtin "object.__ne__") ([.ref l]++[.ref l]) >>= λv=>pure (some v)) Q E s:=by
  refine ad (wpAny_call (codeAny_call_builtin PySem.F.cmp_object.ne.plain PySem.F.cmpEntry_ne ?_));simp only[checkBuiltinCall,PySem.F.cmpKind_ne,PySem.F.cmpSplit_ne];refine ad (ad (I.type.here ((looks_subIn X h3).here ?_)));rw[if_neg (by simp)];have ha:=PySem.F.cmpArgs_ne (.ref l) (.ref l);have h0:(match Manifest.signature? "object.__ne__" with|some sig=>Bind.checkArgs "object.__ne__" sig { pos:=[Value.ref l]++[Value.ref l] }|x=>pure ())=pure ():=ha;refine wpAny_of_eq h0 ?_;unfold Builtin.«object.__ne__»;show wpAny _ _ (pure (Value.ref l,[Value.ref l]) >>= _) _ _ _;refine ad (am ?_);refine ad (wpAny_cRoomFor (show A.units+1<cLine by omega) ?_);refine ad (J9 X I h1 h3 ?_);refine ad (bi ?_);exact am (am h)
 refine ad (wpAny_askSetting (wpAny_ite ?_))
 split
 .exact ad (am (am fin))
 .exact wpAny_tryCatch (ad (am (am fin)))
def yx (X:K.In s.heap)(I:InstAt s.heap l (instObj C dx) C od)(hC:ua K C=true)(hu:A.units+3<cLine):SeqAt.RcNeAt A s (.ref l) (.ref l) false:=λprog w E Q h=>by
 unfold ua Ba at hC;simp only[ol,beq_iff_eq]at hC;obtain⟨h0,⟨h1,h2⟩,h3⟩:=hC;simp only[richCompare,PySem.cmpInfo_NotEq]
 try with_reducible refine bd ?_
 refine ad (wpAny_cRoomFor nofun ?_);show wpAny _ _ (typeOf (Value.ref l) >>= _) _ _ _;refine ad (I.type.here (ad (I.type.here ?_)));rw[if_neg (by simp)];refine ad (am ?_);rw[if_neg (by simp)];refine ad ?_;simp only[tryCompare];refine ad (K1 X I h1 h0 h3 nofun ?_);exact am (am h)
def JK (d:Addr)(hd:(d ==sysModules)=false)(dd:Option Addr)(ep:Nat)(sl:Array (Option Value)):Meets (Builtin.«dict.__ne__» ⟨[.ref d,.ref d],[]⟩) (λ_ R s=>s.heap.get? d=some ⟨.type "dict",dd,.dict #[] ep,sl⟩/\R (.ok (.ret (.bool false))) s):=by
 intro prog w A R s hs;obtain⟨h,g,dp,tt,os⟩:=s;obtain⟨ho,q⟩:=hs;have hT:(⟨h,g,dp,tt,os⟩:Shared).TypeIs (.ref d) "dict":=⟨_,ho,rfl⟩;unfold Builtin.«dict.__ne__»
 k_delta "equality"
 unfold Builtin.Dict.dictSlotArgs;refine ad (ad (wpAny_notOrdered_dict hT ?_));show wpAny _ _ (pure (Value.ref d,[Value.ref d]) >>= _) _ _ _;refine ad (am (am ?_));have hi:=PySem.F.kt_sub_dict;show wpAny _ _ (isInstance (.ref d) (.type "dict") >>= _) _ _ _;unfold Builtin.Dict.samePairs;simp only[Std.Legacy.Range.forIn_eq_forIn_range']
 repeat(any_goals first|assumption|wp_step)
def B4 (hd:(d ==sysModules)=false){ep:Nat}(ho:s.heap.get? d=some ⟨.type "dict",dd,.dict #[] ep,sl⟩) (hu:A.units<cLine):SeqAt.RcNeAt A s (.ref d) (.ref d) false:=λprog w E Q h=>
 richCompare_meets_room (op:=.NotEq) ⟨_,ho,rfl⟩ ⟨_,ho,rfl⟩ PySem.F.slot_dict_ne PySem.F.entry_dict_ne (PySem.F.args_dict_ne_2 _ _) (JK d hd dd ep sl) ⟨ho,show Value.bool false≠Value.notImplemented/\Q (.bool false) s from⟨(λx=>nomatch x),h⟩⟩ hu
abbrev BL (K:W.Frag)(H:Hp)(a:Addr):Prop:=(∃ xs,bp K H a xs)\/H a=some (.dK [])\/(∃ C dx fs,H a=some (.ins C dx fs)/\ua K C=true)\/∃ xs,bb K H a xs
def Dg {a:Addr}(I:Inv X Y U H s)(h:BL X.K H a)(hu:A.units+3<cLine):SeqAt.RcNeAt A s (.ref a) (.ref a) false:=by
 rcases h with⟨xs,h⟩|h|⟨C,dx,fs,h,hn⟩|⟨xs,h⟩
 .obtain⟨ia,ra,pa,_⟩:=I.tuple h;have rc:=SeqAt.RcNeAt.tuples (A:=A) (e:=λ_=>true) (show s.heap.IsTuple a ia.toArray from pa) (show s.heap.IsTuple a ia.toArray from pa) nofun λj h1 h2=>SeqAt.EqAt.same _
  have e:((List.range (min ia.toArray.size ia.toArray.size)).all (λ_=>true)&&ia.toArray.size ==ia.toArray.size)=true:=by simp
  rw[e]at rc;exact rc
 .obtain⟨z,hd,vs,rel,dd⟩:=j7 I.hok (.inl h);cases rel;obtain⟨⟨c,d,da,sl⟩,es,ep,ho,hx,he,_,hp,_⟩:=dd;have e0:es=#[]:=by
   cases hp':es.toList with
   |nil=>exact Array.toList_eq_nil_iff.mp hp'
   |cons a b=>rw[hp']at hp;cases hp
  subst e0;obtain rfl:da=.dict #[] ep:=he;obtain⟨rfl,_⟩:=hx;exact B4 hd ho nofun
 .obtain⟨mA,o,_⟩:=ig I.hok h;obtain⟨od,i,_⟩:=o.look;exact yx I.bV i hn hu
 .obtain⟨ia,ra,pa,_⟩:=I.list h;have rc:=SeqAt.RcNeAt.lists (A:=A) (e:=λ_=>true) pa.isList pa.isList rfl nofun λj h1 h2=>SeqAt.EqAt.same _
  have e:(List.range ia.toArray.size).all (λ_=>true)=true:=by simp
  rw[e]at rc;exact rc
end
end L2
namespace L2
open PySem PySem.Spec PyProof.Rows
section
variable {X:Cx}{tg:Expr}
end
end L2
namespace L2
open PySem PySem.Spec PySem.W PyProof.Rows
open PySem.AutoSeq1 (wpAny_loadPart')
section
variable {prog:Program}{w:World}{A:Around}{E:NV}{s:Shared}
end
variable {kvs:List (Key×V)}
section
variable {X:Cx}{Y:NW}{U:St}{H:Hp}{s:Shared}
def Av {o:Option V}{w:Option Value}{d:V}{r:Value}(h:dq o w)(rd:RelV d r):RelV (o.getD d) (w.getD r):=by
 cases o<;>cases w
 .exact rd
 .exact False.elim h
 .exact False.elim h
 .exact h
def F0 {a:Addr}{k:Key}{d:V}{u r:Value}{A:Around}{E:NV}{Q:NV}(I:Inv X Y U H s)(e:H a=some (.dK kvs))(ry:RelV (kV k) u)(rd:RelV d r)(q:∀ w' s',Inv X Y U H s'->RelV ((gi kvs k).getD d) w'->Q w' s'):
  wpAny (model X.prog X.w) A (call (.builtin "dict.get") [.ref a,u,r]) Q E s:=by
 obtain⟨_,hd,vs,rel,dd⟩:=vx I.hok e;exact call_meetsIn PySem.F.slot_dict_get dd.typeIs PySem.F.entry_dict_get (PySem.F.args_dict_get_3 _ _ _) (meets_dict_get_default (aA X.prog X.w) a (oM ry) hd r) ⟨_,dd.mapOf,q _ _ (I.tok _) (Av (rel.val k) rd)⟩
abbrev LS (td:TE)(t:TA):TE:=λU H Q=>td U H λx H1=>∃ a kvs0,x=.ref a/\H1 a=some (.dK kvs0)/\t U H1 λvs H2=>∃ kvs k d,vs=[kV k,d]/\H2 a=some (.dK kvs)/\Q ((gi kvs k).getD d) H2
def GN {o e:Expr}{es:List Expr}{td:TE}{t:TA}{apos cpos:Pos}(ho:PE X o td)(ha:PA X (e::es) t)(hbase:attributeBase o "get" X.env (eval o X.env)=eval o X.env)
  (hfew:((backTo cpos (bn (e::es) X.env)).all (λx=>!x.1)&&(backToKw cpos (keywordEach [] X.env)).all (λx=>x.1.isSome)&&decide ((e::es).length+([]:List Keyword).length+(if([]:List Keyword).isEmpty then 0 else 1)<30))=true)
  (hline:(apos.endLine ==cpos.line)=true) (hs:bn (e::es) X.env=(false,eval e X.env)::bn es X.env) (hplain:(backTo cpos (bn es X.env)).any (·.1)=false):
  PE X (.Call (.Attribute o "get" apos) (e::es) [] cpos) (LS td t):=by
 intro Y s U H Q I h;refine wpAny_Call_method_late hbase hfew hline rfl (aD (ho Y s U H _ I h) λv s1 ⟨x,H1,I1,r1,a,kvs0,ex,e0,q1⟩=>?_);subst ex;obtain rfl:v=Value.ref a:=r1;obtain⟨_,hd,vs,_,dd⟩:=vx I1.hok e0;refine⟨"dict","dict.get",PySem.F.plainAttrs_dict,PySem.F.slot_dict_get,PySem.F.type_dict_get,dd.typeIs,λb q=>?_,?_⟩
 .cases q;obtain⟨ob,_,_,h1,h2,_⟩:=dd;exact⟨ob,h1,h2.2.1⟩
 have hA:=ha cpos Y s1 U H1 _ I1 q1;rw[hs]at hA⊢;refine Calls.callWith_builtin (by show(false||(backTo cpos (bn es X.env)).any (·.1))=false;rw[hplain]<;>rfl) (Calls.evalArgs_plain ?_);refine aD hA λus s2 ⟨vs,H2,I2,r2,kvs,k,d,ev,e2,q2⟩=>?_
 subst ev;cases r2 with
 |cons ry rr=>
  cases rr with
  |cons rd rr=>
   cases rr;exact F0 I2 e2 ry rd λw' s3 I3 rw'=>⟨_,H2,I3,rw',q2⟩
end
section
variable {prog:Program}{w:World}{A:Around}{E:NV}{s:Shared}
variable {z TI TO i1 i2 i3 l1 l2 l3:Addr}{k1 k2 k3:Nat}{tp1 tp2 tp3:Bool}{xs ys zs:Array Value}{x y v a b c f1:Value}
end
def uC:∀ n:Nat,(List.range n).map (λ(k:Nat)=>(((n:Int)-1+ -1*(k:Int)).toNat:Nat))=(List.range n).reverse:=λn=>by
 refine List.ext_getElem (by simp) λi h1 h2=>?_
 simp only[ci,length_range]at h1;simp only[List.getElem_map,List.getElem_range,List.getElem_reverse,length_range]
 omega
def zN (its:List Value):(List.range its.length).filterMap (λx=>its.toArray[x]?)=its:=by
 have h:=pick_run its.toArray 0 its.length;simpa using h
def mW (its:List Value):slicePick its.toArray none none (some (-1))=its.reverse.toArray:=by
 have hb:sliceBounds none none (some (-1)) its.toArray.size=((its.length:Int)-1,-1,-1):=by simp[sliceBounds]
 have hr:sliceRange ((its.length:Int)-1) (-1) (-1)=(List.range its.length).reverse:=by
  unfold sliceRange;rw[<-uC];have hc:(if(-1:Int)>0 then(if(its.length:Int)-1< -1 then(-1-((its.length:Int)-1)+ -1-1) / (-1) else 0) else if(its.length:Int)-1> -1 then((its.length:Int)-1-(-1)-(-1)-1) / (-(-1)) else 0).toNat=its.length:=by
   rw[if_neg (by decide)]
   by_cases h:(its.length:Int)-1> -1
   .rw[if_pos h,show(-(-1):Int)=1 from rfl,Int.ediv_one]
    omega
   .rw[if_neg h]
    omega
  dsimp only;rw[hc]
 unfold slicePick;rw[hb];dsimp only;rw[hr,List.filterMap_reverse,zN]
variable {X:Cx}{e es:Expr}{te:TE}{ts:TO}{p2 pos:Pos}
abbrev Ms (K:W.Frag)(te:TE)(ts:TO):TE:=λU H Q=>te U H λx H1=>ts U H1 λo H2=>o=some (-1)/\∃ a xs,x=.ref a/\bb K H2 a xs/\∀ p,H2 p=none->Q (.ref p) (upd H2 p (.lst xs.reverse))
def Gn (he:PE X e te)(hs:PO X (some es) ts):PE X (.Subscript e (.Slice none none (some es) p2) pos) (Ms X.K te ts):=by
 intro Y s U H Q I h;refine Subscript_ (aD (he Y s U H _ I h) λv s1 ⟨x,H1,I1,r1,q1⟩=>?_);refine wpAny_Slice ?_;rw[evalPart_none];refine am (am (aD (hs Y s1 U H1 _ I1 q1) λvt s3 ⟨o,H3,I3,pt,q3⟩=>?_));obtain⟨rfl,a,xs,rfl,hx,q⟩:=q3;have I4:Inv X Y U H3 { s3 with heap:=s3.heap.push { cls:=.type "slice",data:=.fields #[.none,.none,vt] } }:=I3.kept (t':=s3.toks) λb ob q=>ut _ q
 show wpAny (model X.prog X.w) X.A (subscriptTail e (.Slice none none (some es) p2) v (.ref s3.heap.objs.size)) (EP X Y U Q) X.xe { s3 with heap:=s3.heap.push { cls:=.type "slice",data:=.fields #[.none,.none,vt] } };cases r1;obtain⟨its,r,ht,hz⟩:=I4.list hx;have hlen:=r.length;refine tail_any (ops:=[.ref a,.ref s3.heap.objs.size]) ht.isList.typeIs slot_list_getitem.lookup ?_ (by with_unfolding_all rfl);refine wpAny_getItem_list_slice ht.isList (Heap.IsSliceOf.new ..) .none .none pt (by simp) ?_ (by rw[ii]<;>omega);rw[mW];refine⟨.ref _,_,I4.laid (t':=s3.toks) (o:=.lst xs.reverse) (λb ob q=>ut _ q) (sw _) ?_,rfl,q _ (I4.hok.fresh (sw _))⟩;exact⟨by rw[length_reverse];exact hz,_,0,r.reverse,v4 _ rfl⟩
def we:∀ {xs:List V}{us:List Value},xs.length=us.length->(∀ (j:Nat) (x:V) (u:Value),xs[j]? =some x->us[j]? =some u->RelV x u)->Vals xs us
 | [],[],_,_=>.nil
 |x::xs,u::us,e,h=>.cons (h 0 x u rfl rfl) (we (Nat.succ.inj e) λj a b e1 e2=>h (j+1) a b e1 e2)
def vk:∀ {kvs:List (Key×V)}{vs:List (Key×Value)},KV kvs vs->kvs.map (·.1)=vs.map (·.1)
 |_,_,.nil=>rfl
 |_,_,.cons r rs=>by rw[map_cons,map_cons,r.1,vk rs]
def vh {Y:NW}{U:St}{H:Hp}{s:Shared}{Q:VK}{d:Addr}(hc:X.calm=true)(I:Inv X Y U H s)(e:H d=some (.dK kvs))(q:∀ p,H p=none->Q (.ref p) (upd H p (.lst (kvs.map (λkv=>kV kv.1))))):
  wpAny (model X.prog X.w) X.A (call (.type "list") [.ref d]) (EP X Y U Q) X.xe s:=by
 obtain⟨hz,hd,vs,rel,dd⟩:=j7 I.hok (.inl e);obtain⟨o,es,ep,ho,hx,he,hk,hp,hn⟩:=dd;have hA:s.heap.DictAt (aA X.prog X.w) d vs ep:=⟨o,es,ho,hx,he,hk,hp,hn⟩;have hl:vs.length<=bv:=by rw[<-rel.length];exact hz
 refine kdl_call (kdl_dict hd) (I.ok.hd hc) hA hl λh' tk acc c' hk' hD hi=>?_
 have r:Vals (kvs.map (λkv=>kV kv.1)) acc.toList:=we ((ci ..).trans (rel.length.trans (hi.1.symm.trans Array.length_toList.symm))) λj x u e1 e2=>by
  rw[io]at e1;obtain⟨⟨k,y⟩,ek,rfl⟩:=pc.mp e1;obtain⟨k',y',ek',hs⟩:=hi.2 j u (by rw[<-Array.getElem?_toList];exact e2);have ekk:k=k':=by
   have h2:(kvs.map (·.1))[j]? =(vs.map (·.1))[j]? :=by rw[vk rel]
   rw[io,io,ek,ek']at h2;exact Option.some.inj h2
  subst ekk;rcases aM hs with⟨i,t,rfl,rfl⟩|⟨z,t,rfl,rfl⟩
  .exact⟨t,rfl⟩
  .exact⟨t,rfl⟩
 exact⟨.ref _,_,I.laid (t':=tk) hk' (sw _) (show aP X.prog X.w _ h' _ (.lst (kvs.map (λkv=>kV kv.1))) from⟨by rw[ci];exact hz,acc.toList,c',r,by rw[Array.toArray_toList];exact hD⟩),rfl,q _ (I.hok.fresh (sw _))⟩
end L2
namespace L2
open PySem PySem.Spec PyProof.Rows
inductive dR (K:W.Frag) (H:Hp):Nat->V->V->Bool->Prop where
 |flat {n:Nat}{x y:V}(fx:aZ x=true) (fy:aZ y=true):dR K H n x y (dw x y)
 |same {n:Nat}(a:Addr):dR K H (n+1) (.ref a) (.ref a) true
 |ll {n:Nat}{a b:Addr}{xs ys:List V}{e:Nat->Bool}(ha:bb K H a xs) (hb:bb K H b ys) (hl:xs.length=ys.length) (h:∀ j x y,xs[j]? =some x->ys[j]? =some y->dR K H (n+1) x y (e j)):dR K H (n+2) (.ref a) (.ref b) ((List.range xs.length).all e)
 |tt {n:Nat}{a b:Addr}{xs ys:List V}{e:Nat->Bool}(ha:bp K H a xs) (hb:bp K H b ys) (h:∀ j x y,xs[j]? =some x->ys[j]? =some y->dR K H (n+1) x y (e j)):dR K H (n+2) (.ref a) (.ref b) ((List.range (min xs.length ys.length)).all e&&xs.length ==ys.length)
variable {A:Around}
section
variable {X:Cx}{Y:NW}{s:Shared}{U:St}{H:Hp}
def zM {y x:V}{u v:Value}(ry:RelV y u)(rx:RelV x v)(fy:aZ y=true)(fx:aZ x=true):SeqAt.RcAt A s u v (dw y x):=by
 cases y<;>first|cases fy|skip
 all_goals (cases x<;>first|cases fx|skip)
 all_goals (first|(obtain⟨t,rfl⟩:=ry)|cases ry)
 all_goals (first|(obtain⟨t',rfl⟩:=rx)|cases rx)
 .exact SeqAt.RcAt.none_none
 .exact SeqAt.RcAt.none_bool _
 .exact SeqAt.RcAt.none_int _ _
 .exact SeqAt.RcAt.none_str _ _
 .exact SeqAt.RcAt.bool_none _
 .exact SeqAt.RcAt.bool_bool _ _
 .exact SeqAt.RcAt.bool_int _ _ _
 .exact SeqAt.RcAt.bool_str _ _ _
 .exact SeqAt.RcAt.int_none _ _
 .exact SeqAt.RcAt.int_bool _ _ _
 .exact SeqAt.RcAt.int_int _ _ _ _
 .exact SeqAt.RcAt.int_str _ _ _ _
 .exact SeqAt.RcAt.str_none _ _
 .exact SeqAt.RcAt.str_bool _ _ _
 .exact SeqAt.RcAt.str_int _ _ _ _
 .exact SeqAt.RcAt.str_str _ _ _ _
def qU {y x:V}{u v:Value}(ry:RelV y u)(rx:RelV x v)(fy:aZ y=true)(fx:aZ x=true):SeqAt.RcNeAt A s u v (!dw y x):=by
 cases y<;>first|cases fy|skip
 all_goals (cases x<;>first|cases fx|skip)
 all_goals (first|(obtain⟨t,rfl⟩:=ry)|cases ry)
 all_goals (first|(obtain⟨t',rfl⟩:=rx)|cases rx)
 .exact SeqAt.RcNeAt.none_none
 .exact SeqAt.RcNeAt.none_bool _
 .exact SeqAt.RcNeAt.none_int _ _
 .exact SeqAt.RcNeAt.none_str _ _
 .exact SeqAt.RcNeAt.bool_none _
 .exact SeqAt.RcNeAt.bool_bool _ _
 .exact SeqAt.RcNeAt.bool_int _ _ _
 .exact SeqAt.RcNeAt.bool_str _ _ _
 .exact SeqAt.RcNeAt.int_none _ _
 .exact SeqAt.RcNeAt.int_bool _ _ _
 .exact SeqAt.RcNeAt.int_int _ _ _ _
 .exact SeqAt.RcNeAt.int_str _ _ _ _
 .exact SeqAt.RcNeAt.str_none _ _
 .exact SeqAt.RcNeAt.str_bool _ _ _
 .exact SeqAt.RcNeAt.str_int _ _ _ _
 .exact SeqAt.RcNeAt.str_str _ _ _ _
def eqv_refl (I:Inv X Y U H s):∀ {n:Nat}{x y:V}{b:Bool},dR X.K H n x y b->x=y->b=true:=by
 intro n x y b h
 induction h with
 | @flat n x y fx fy=>
  rintro rfl;cases x<;>first|(exact absurd fx Bool.false_ne_true)|simp[dw]
 |same a=>intro _;rfl
 | @ll n a b xs ys e ha hb hl h ih=>
  intro z;cases z;have:=I.mz ha hb;subst this;rw[all_eq_true];intro j hj;have hj':j<xs.length:=mem_range.mp hj;exact ih j _ _ (lw hj') (lw hj') rfl
 | @tt n a b xs ys e ha hb h ih=>
  intro z;cases z;have:=I.jE ha hb;subst this;rw[beq_self_eq_true,Bool.and_true,Nat.min_self,all_eq_true];intro j hj;have hj':j<xs.length:=mem_range.mp hj;exact ih j _ _ (lw hj') (lw hj') rfl
def lq (I:Inv X Y U H s):∀ {n:Nat}{x y:V}{b:Bool},dR X.K H n x y b->∀ {A:Around}{u v:Value},A.units+n<cLine->RelV x u->RelV y v->
  (SeqAt.EqAt A s u v b)/\(x=y\/SeqAt.RcAt A s u v b/\SeqAt.RcNeAt A s u v (!b)):=by
 intro n x y b h
 induction h with
 |flat fx fy=>intro A u v _ rx ry;exact⟨Bc rx ry fx fy,.inr ⟨zM rx ry fx fy,qU rx ry fx fy⟩⟩
 |same a=>intro A u v _ rx ry;cases rx;cases ry;exact⟨SeqAt.EqAt.same _,.inl rfl⟩
 | @ll n a b xs ys e ha hb hl h ih=>
  intro A u v hu rx ry;have hall:=dR.ll ha hb hl h;cases rx;cases ry
  by_cases hab:a=b
  .subst hab;have z:=eqv_refl I hall rfl;rw[z];exact⟨SeqAt.EqAt.same _,.inl rfl⟩
  obtain⟨ia,ra,pa,_⟩:=I.list ha;obtain⟨ib,rb,pb,_⟩:=I.list hb;have e1:ia.toArray.size=xs.length:=by rw[ii,ra.length]
  have e2:ib.toArray.size=ys.length:=by rw[ii,rb.length]
  have he:∀ j (h1:j<ia.toArray.size) (h2:j<ib.toArray.size),SeqAt.EqAt A.in1 s ia.toArray[j] ib.toArray[j] (e j):=λj h1 h2=>by
   obtain⟨x1,f1,r1⟩:=k7 ra h1;obtain⟨y1,f2,r2⟩:=k7 rb h2;exact(ih j x1 y1 f1 f2 (by show A.units+1+(n+1)<cLine;omega) r1 r2).1
  have rc:=SeqAt.RcAt.lists (A:=A) pa.isList pb.isList (by rw[e1,e2,hl]) nofun he;have rn:=SeqAt.RcNeAt.lists (A:=A) pa.isList pb.isList (by rw[e1,e2,hl]) nofun he;rw[e1]at rc rn;exact⟨SeqAt.EqAt.of_refs hab rc,.inr ⟨rc,rn⟩⟩
 | @tt n a b xs ys e ha hb h ih=>
  intro A u v hu rx ry;have hall:=dR.tt ha hb h;cases rx;cases ry
  by_cases hab:a=b
  .subst hab;have z:=eqv_refl I hall rfl;rw[z];exact⟨SeqAt.EqAt.same _,.inl rfl⟩
  obtain⟨ia,ra,pa,_⟩:=I.tuple ha;obtain⟨ib,rb,pb,_⟩:=I.tuple hb;have e1:ia.toArray.size=xs.length:=by rw[ii,ra.length]
  have e2:ib.toArray.size=ys.length:=by rw[ii,rb.length]
  have he:∀ j (h1:j<ia.toArray.size) (h2:j<ib.toArray.size),SeqAt.EqAt A.in1 s ia.toArray[j] ib.toArray[j] (e j):=λj h1 h2=>by
   obtain⟨x1,f1,r1⟩:=k7 ra h1;obtain⟨y1,f2,r2⟩:=k7 rb h2;exact(ih j x1 y1 f1 f2 (by show A.units+1+(n+1)<cLine;omega) r1 r2).1
  have rc:=SeqAt.RcAt.tuples (A:=A) (show s.heap.IsTuple a ia.toArray from pa) (show s.heap.IsTuple b ib.toArray from pb) nofun he;have rn:=SeqAt.RcNeAt.tuples (A:=A) (show s.heap.IsTuple a ia.toArray from pa) (show s.heap.IsTuple b ib.toArray from pb) nofun he;rw[e1,e2]at rc rn;exact⟨SeqAt.EqAt.of_refs hab rc,.inr ⟨rc,rn⟩⟩
@[irreducible] noncomputable def hR (K:W.Frag) (neg:Bool):R2:=λx y H Q=>∃ n b,dR K H n x y b/\n<=100/\(aZ x=true\/x≠y\/(neg=false/\∃ a,x=.ref a/\A8 K H a)\/(neg=true/\∃ a,x=.ref a/\BL K H a))/\Q (.bl (if neg then !b else b)) H
def Fz (hu:X.A.units+200<cLine):cX X (compareOp .Eq) (hR X.K false):=by
 intro Y s U H x y v u Q I rx ry h;unfold hR at h;obtain⟨n,b,e,hn,hx,q⟩:=h;rcases(lq I e (A:=X.A) nofun rx ry).2 with z|⟨z,_⟩
 .subst z;rcases hx with hx|hx
  .have z:=eqv_refl I e rfl;have r:=zM (s:=s) (A:=X.A) rx ry hx hx;have z2:=eqv_refl I (dR.flat (K:=X.K) (H:=H) (n:=0) hx hx) rfl;rw[z2]at r;rw[z]at q;exact PySem.EqBoolInt.of_rc r ⟨.bl true,H,I,rfl,q⟩
  rcases hx with hx|⟨_,a,rfl,hs⟩|⟨hx,_⟩
  .exact absurd rfl hx
  .have z:=eqv_refl I e rfl;rw[z]at q;cases rx;cases ry;exact PySem.EqBoolInt.of_rc (Dc (A:=X.A) I hs nofun) ⟨.bl true,H,I,rfl,q⟩
  .cases hx
 .exact PySem.EqBoolInt.of_rc z ⟨.bl b,H,I,rfl,q⟩
def Ii (hu:X.A.units+200<cLine):cX X (compareOp .NotEq) (hR X.K true):=by
 intro Y s U H x y v u Q I rx ry h;unfold hR at h;obtain⟨n,b,e,hn,hx,q⟩:=h;rcases(lq I e (A:=X.A) nofun rx ry).2 with z|⟨_,z⟩
 .subst z;rcases hx with hx|hx
  .have z:=eqv_refl I e rfl;have r:=qU (s:=s) (A:=X.A) rx ry hx hx;have z2:=eqv_refl I (dR.flat (K:=X.K) (H:=H) (n:=0) hx hx) rfl;rw[z2]at r;rw[z]at q;exact PySem.EqBoolInt.of_rcne r ⟨.bl false,H,I,rfl,q⟩
  rcases hx with hx|⟨hx,_⟩|⟨_,a,rfl,hs⟩
  .exact absurd rfl hx
  .cases hx
  .have z:=eqv_refl I e rfl;rw[z]at q;cases rx;cases ry;exact PySem.EqBoolInt.of_rcne (Dg (A:=X.A) I hs nofun) ⟨.bl false,H,I,rfl,q⟩
 .exact PySem.EqBoolInt.of_rcne z ⟨.bl (!b),H,I,rfl,q⟩
end
@[irreducible] noncomputable def Ka (K:W.Frag) (a b:Addr) (H:Hp) (Q:VK):Prop:=(∃ xs ys,H a=some (.lst xs)/\H b=some (.lst ys)/\xs.length+ys.length<=100000/\∀ p,H p=none->Q (.ref p) (upd H p (.lst (xs++ys))))\/False
@[irreducible] noncomputable def CZ (K:W.Frag) (a:Addr) (k:Int) (H:Hp) (Q:VK):Prop:=(∃ xs,H a=some (.lst xs)/\ -1000<=k/\k<=1000/\xs.length<=1000/\∀ p,H p=none->Q (.ref p) (upd H p (.lst (tz k.toNat xs).flatten)))\/False
abbrev HL (K:W.Frag):R2:=λx y H Q=>match x,y with
 | .int i,.int j=>Q (.int (i+j)) H
 | .str a,.str b=>a.length+b.length<=100000/\Q (.str (a++b)) H
 | .ref a,.ref b=>Ka K a b H Q
 |_,_=>False
abbrev GP:R2:=λx y H Q=>match x,y with
 | .int i,.int j=>Q (.int (i-j)) H
 |_,_=>False
abbrev Gm (K:W.Frag):R2:=λx y H Q=>match x,y with
 | .int i,.int j=>sG i j/\Q (.int (i*j)) H
 | .ref a,.int k=>CZ K a k H Q
 |_,_=>False
abbrev HS:R2:=λx y H Q=>match x,y with
 | .int i,.int j=>(0<j/\j<1073741824)/\Q (.int (i / j)) H
 |_,_=>False
abbrev Fl:R2:=λx y H Q=>match x,y with
 | .int i,.int j=>0<j/\Q (.int (i % j)) H
 |_,_=>False
abbrev Fm:R2:=λx y H Q=>match x,y with
 | .int i,.int j=>DR i j/\Q (.int (i ^ j.toNat)) H
 |_,_=>False
abbrev Gw (K:W.Frag)(op:Operator):R2:=match op with
 | .Add=>HL K
 | .Sub=>GP
 | .Mult=>Gm K
 | .FloorDiv=>HS
 | .Mod=>Fl
 | .Pow=>Fm
 |_=>λ_ _ _ _=>False
section
variable {X:Cx}
def om {n:Nat}(h:n<=1000000):n<=bv:=by rw[sizeLine_eq];omega
def GH (op:Operator):cX X (binaryOp op) (Gw X.K op):=by
 intro Y s U H x y v u Q I rx ry h;cases op with
 |Add=>
  have h':HL X.K x y H Q:=h;unfold HL at h'
  split at h'
  .exact Fw Y s U H _ _ v u Q I rx ry ⟨_,_,rfl,rfl,h'⟩
  .exact tL Y s U H _ _ v u Q I rx ry ⟨_,_,rfl,rfl,om nofun,h'.2⟩
  .unfold Ka at h';rcases h' with⟨xs,ys,ha,hb,hz,q⟩|h'
   .exact Fs Y s U H _ _ v u Q I rx ry ⟨_,_,xs,ys,rfl,rfl,ha,hb,om nofun,q⟩
   .exact h'.elim
  .exact h'.elim
 |Sub=>
  have h':GP x y H Q:=h;unfold GP at h'
  split at h'
  .exact Hs Y s U H _ _ v u Q I rx ry ⟨_,_,rfl,rfl,h'⟩
  .exact h'.elim
 |Mult=>
  have h':Gm X.K x y H Q:=h;unfold Gm at h'
  split at h'
  .exact FH Y s U H _ _ v u Q I rx ry ⟨_,_,rfl,rfl,h'.1,h'.2⟩
  .rename_i k;unfold CZ at h';rcases h' with⟨xs,ha,h1,h2,hz,q⟩|h'
   .refine Gf Y s U H _ _ v u Q I rx ry ⟨_,k,xs,rfl,rfl,ha,by omega,by omega,om ?_,q⟩;have:xs.length*k.toNat<=1000*1000:=Nat.mul_le_mul hz nofun
    omega
   .exact h'.elim
  .exact h'.elim
 |FloorDiv=>
  have h':HS x y H Q:=h;unfold HS at h'
  split at h'
  .exact Cb Y s U H _ _ v u Q I rx ry ⟨_,_,rfl,rfl,h'.1,h'.2⟩
  .exact h'.elim
 |Mod=>
  have h':Fl x y H Q:=h;unfold Fl at h'
  split at h'
  .exact FY Y s U H _ _ v u Q I rx ry ⟨_,_,rfl,rfl,h'.1,h'.2⟩
  .exact h'.elim
 |Pow=>
  have h':Fm x y H Q:=h;unfold Fm at h'
  split at h'
  .exact Fy Y s U H _ _ v u Q I rx ry ⟨_,_,rfl,rfl,h'.1,h'.2⟩
  .exact h'.elim
 |_=>exact(show False from h).elim
abbrev xW (f:Int->Int->Bool):R2:=λx y H Q=>match x,y with
 | .int i,.int j=>Q (.bl (f i j)) H
 |_,_=>False
@[irreducible] noncomputable def JN (K:W.Frag) (neg:Bool):R2:=λx y H Q=>match y with
 | .ref p=>(∃ xs,(bb K H p xs\/bp K H p xs)/\aZ x=true/\xs.all aZ=true/\Q (.bl (if neg then !ID x xs else ID x xs)) H)\/False\/False
 | .str j=>False
 |_=>False
@[irreducible] noncomputable def BY (neg:Bool):R2:=λx y H Q=>match y with
 | .non=>Q (.bl (if neg then !decide (x=.non) else decide (x=.non))) H
 | .bl b=>False
 | .ref b=>False
 |_=>False
abbrev mC (K:W.Frag)(op:CmpOp):R2:=match op with
 | .Eq=>hR K false
 | .NotEq=>hR K true
 | .Lt=>xW λi j=>decide (i<j)
 | .LtE=>xW λi j=>decide (i<=j)
 | .Gt=>xW λi j=>decide (j<i)
 | .GtE=>xW λi j=>decide (j<=i)
 | .In=>JN K false
 | .NotIn=>λ_ _ _ _=>False
 | .Is=>BY false
 | .IsNot=>BY true
def qr {f:Int->Int->Bool}{op:CmpOp}(ho:cX X (compareOp op) (Dn λi j=>.bl (f i j))):cX X (compareOp op) (xW f):=by
 intro Y s U H x y v u Q I rx ry h;unfold xW at h
 split at h
 .exact ho Y s U H _ _ v u Q I rx ry ⟨_,_,rfl,rfl,h⟩
 .exact h.elim
def Ic (hu:X.A.units+200<cLine)(op:CmpOp):cX X (compareOp op) (mC X.K op):=by
 cases op with
 |Eq=>exact Fz hu
 |NotEq=>exact Ii hu
 |Lt=>exact qr K7
 |LtE=>exact qr Jp
 |Gt=>exact qr J8
 |GtE=>exact qr Jc
 |In=>
  intro Y s U H x y v u Q I rx ry h;have h':JN X.K false x y H Q:=h;unfold JN at h'
  split at h'
  .rcases h' with⟨xs,hx,f1,f2,q⟩|g|z
   .exact xg Y s U H _ _ v u Q I rx ry ⟨_,xs,rfl,hx,f1,f2,q⟩
   .exact g.elim
   .exact z.elim
  .exact h'.elim
  .exact h'.elim
 |NotIn=>exact λ_ _ _ _ _ _ _ _ _ _ _ _ h=>(show False from h).elim
 |Is=>
  intro Y s U H x y v u Q I rx ry h;have h':BY false x y H Q:=h;unfold BY at h'
  split at h'
  .exact Gr Y s U H _ _ v u Q I rx ry ⟨rfl,h'⟩
  .exact h'.elim
  .exact h'.elim
  .exact h'.elim
 |IsNot=>
  intro Y s U H x y v u Q I rx ry h;have h':BY true x y H Q:=h;unfold BY at h'
  split at h'
  .exact B3 Y s U H _ _ v u Q I rx ry ⟨rfl,h'⟩
  .exact h'.elim
  .exact h'.elim
  .exact h'.elim
@[irreducible] noncomputable def qR (K:W.Frag):R2:=λx y H Q=>match x with
 | .ref p=>(∃ xs i v,y=.int i/\(bb K H p xs\/bp K H p xs)/\lS xs i=some v/\Q v H)\/∃ v,FO H p y (some v)/\Q v H
 | .str z=>False
 |_=>False
def tH (hu:X.A.units+200<cLine):JL X (qR X.K):=by
 intro value slice Y s U H x y v u Q I rx ry h hs;unfold qR at h
 split at h
 .rcases h with⟨xs,i,w,rfl,hx,ha,q⟩|⟨w,g,q⟩
  .rcases hx with hx|hx
   .exact Cr value slice Y s U H _ _ v u Q I rx ry ⟨_,xs,i,w,rfl,rfl,hx,ha,q⟩ hs
   .exact Gp value slice Y s U H _ _ v u Q I rx ry ⟨_,xs,i,w,rfl,rfl,hx,ha,q⟩ hs
  .cases rx;exact tail_any (rP I g) PySem.F.slot_dict_getitem.lookup (xk nofun I g ry λw' s3 I3 rw'=>⟨w,H,I3,rw',q⟩) hs
 .exact h.elim
 .exact h.elim
@[irreducible] noncomputable def iI:xB:=λo i v H Q=>match o with
 | .ref p=>(∃ xs k j,i=.int k/\H p=some (.lst xs)/\A2 xs.length k=some j/\Q (upd H p (.lst (xs.set j v))))\/∃ H4,Kx H p i v H4/\Q H4
 |_=>False
def wL (hu:X.A.units+200<cLine):CB X iI:=by
 intro Y s U H o i v ov iv u Q I ro ri rv h;unfold iI at h
 split at h
 .rcases h with⟨xs,k,j,rfl,hp,hj,q⟩|⟨H4,g,q⟩
  .exact set_list Y s U H _ _ v ov iv u Q I ro ri rv ⟨_,xs,k,j,rfl,rfl,hp,hj,q⟩
  .cases ro;exact yA nofun I g ri rv λs4 I4=>⟨H4,I4,q⟩
 .exact h.elim
@[irreducible] noncomputable def IE (K:W.Frag):V->Option Int->Option Int->Hp->VK->Prop:=λx lo hi H Q=>match x with
 | .ref a=>(∃ xs,bb K H a xs/\∀ p,H p=none->Q (.ref p) (upd H p (.lst (sL xs lo hi))))\/False
 | .str z=>False
 |_=>False
def HX:Lk X (IE X.K):=by
 intro Y s U H x v vl vu lo hi sl Q I rx hs pl pu h;unfold IE at h
 split at h
 .rcases h with⟨xs,hx,q⟩|h
  .exact Cm Y s U H _ v vl vu lo hi sl Q I rx hs pl pu ⟨_,xs,rfl,hx,q⟩
  .exact h.elim
 .exact h.elim
 .exact h.elim
end
end L2
namespace L3
open PySem L2
set_option genSizeOf false
inductive Bf where
 |len|list|tuple|int|str|min|max|abs|all|any|dict|sum
 deriving DecidableEq
inductive Lm where
 |append|extend|insert|pop|clear|reverse|count
 deriving DecidableEq
inductive Cl where
 |own (c:Nat)|ty (n:String)
mutual
inductive Ex where
 |v (i:Nat)|int (i:Int)|bl (b:Bool)|non|str (x:Str)|gl (x:Str)
 |bin (op:Operator) (a b:Ex)|neg (a:Ex)|not (a:Ex)|and (a b:Ex)|or (a b:Ex)
 |cmp (op:CmpOp) (a b:Ex)|cmp2 (o1 o2:CmpOp) (a b c:Ex)|cmp3 (o1 o2 o3:CmpOp) (a b c d:Ex)
 |ife (c:Tx) (a b:Ex)|tup (es:gN)|lst (es:gN)|ix (a i:Ex)|sl (a:Ex) (lo hi:Ld)
 |fld (a:Ex) (f:Str)|call (f:Nat) (es:gN)|meth (a:Ex) (m:Str) (es:gN)|lm (m:Lm) (a:Ex) (es:gN)|make (c:Nat) (es:gN)|bini (es:gN)|cini (c:Nat) (es:gN)
 |bf (b:Bf) (es:gN)|isi (a:Ex) (c:Cl)|lc (elt:Ex) (sel:List Nat) (it:E5)|lci (elt:Ex) (c:Tx) (sel:List Nat) (it:E5)|lct (elt:Ex) (n:Nat) (sel:List Nat) (it:E5)|lcu (elt:Ex) (c:Tx) (n:Nat) (sel:List Nat) (it:E5)|dnew|up (a:Ex)|dzip (a b:Ex)|isiT (a:Ex) (cs:List Nat)|vals (tp:Bool) (a:Ex)|mk0 (c:Nat)|disp (ks:List Str) (es:gN)|lix (a b:Ex)|rev (a b:Ex)|dget (a k d:Ex)
inductive Tx where
 |not (a:Tx)|and (a b:Tx)|or (a b:Tx)|cmp (op:CmpOp) (a b:Ex)|cmp2 (o1 o2:CmpOp) (a b c:Ex)|val (e:Ex)
inductive gN where
 |nil|cons (e:Ex) (es:gN)
inductive Ld where
 |no|yes (e:Ex)
inductive E5 where
 |rng1 (a:Ex)|rng2 (a b:Ex)|rng3 (a b c:Ex)|enm (a:Ex)|enf (a:Ex)|seq (a:Ex)|zip (a b:Ex)|zip3 (a b c:Ex)
end
inductive Lc where
 |nm (i:Nat)|tp (is:List Nat)|nt (i:Nat) (is:List Nat)
mutual
inductive Sx where
 |asg (i:Nat) (e:Ex)|asgT (is:List Nat) (e:Ex)|par (is:List Nat) (es:gN)|sub (o i v:Ex)|fld (o:Ex) (f:Str) (v:Ex)
 |aug (i:Nat) (op:Operator) (e:Ex)|augS (o i:Ex) (op:Operator) (e:Ex)
 |ret (e:Ex)|retN|pass|brk|cont|expr (e:Ex)
 |ife (c:Tx) (a b:lV)|whl (c:Tx) (b:lV)|for (t:Lc) (it:E5) (b:lV)|rais (e:Ex)|tryx (b:lV) (hs:B1)
inductive lV where
 |nil|cons (s:Sx) (r:lV)
inductive B1 where
 |nil|cons (c:Nat) (i:Nat) (b:lV) (hs:B1)
end
structure ay where
 ps:List Str
 N:List Str
 dfl:List V
 body:lV
/-- what of the text never changes. gfn,gcl:the global names of defs and classes,by number;gbl:built-in names that are not shadowed;gbi:classes of exceptions whose __init__ is the built-in one;na:class and name that no class of it has;
  me:class,name,def;ini:class,its __init__;oc,xc:plain classes,classes of exceptions;sub,subT:isinstance -/
structure Tab where
 fns:List ay
 gfn:List (Str×Nat)
 gcl:List (Str×Nat)
 gbl:List Str
 gbi:List Str
 na:List (Nat×Str)
 me:List ((Nat×Str)×Nat)
 ini:List (Nat×Nat)
 ini0:List Nat
 inip:List Nat
 oc:List Nat
 xc:List Nat
 sub:List ((Nat×Nat)×Bool)
 subT:List ((Nat×String)×Bool)
 subB:List ((String×String)×Bool)
 subO:List ((String×Nat)×Bool)
 cin:List (Nat×Nat):=[]
structure Rt where
 K:W.Frag
 fad:Nat->Addr
 cad:Nat->Addr
 gl:Str->Option V
structure Gx where
 T:Tab
 R:Rt
 Ψ:Nat->Sp
 cm:Bool
@[irreducible] noncomputable def jb (c:Bool) (A B:Prop):Prop:=match c with
 |true=>A
 |false=>B
def du (c:Bool)(A B:Prop):jb c A B=(if c=true then A else B):=by unfold jb;cases c<;>rfl
abbrev G1 (K:W.Frag)(x:V)(H:Hp)(Q:Bool->Hp->Prop):Prop:=match x with
 | .bl k=>Q k H
 |y=>∃ k,CT K y H k/\Q k H
abbrev tyName:V->Hp->Option String
 | .non,_=>some "NoneType"
 | .bl _,_=>some "bool"
 | .int _,_=>some "int"
 | .str _,_=>some "str"
 | .ref a,H=>match H a with
  |some (.lst _)=>some "list"
  |some (.tup _)=>some "tuple"
  |some (.dK _)=>some "dict"
  |_=>none
 |_,_=>none
@[irreducible] noncomputable def qB (G:Gx) (b:Bf) (vs:List V) (H:Hp) (Q:VK):Prop:=match b with
 | .len=>∃ x n,vs=[x]/\IY G.R.K x H n/\Q (.int n) H
 | .list=>(∃ p ys,vs=[.ref p]/\(bb G.R.K H p ys\/bp G.R.K H p ys)/\∀ l,H l=none->Q (.ref l) (upd H l (.lst ys)))\/(G.cm=true/\∃ p kvs,vs=[.ref p]/\H p=some (.dK kvs)/\∀ l,H l=none->Q (.ref l) (upd H l (.lst (kvs.map (λkv=>kV kv.1)))))
 | .tuple=>∃ p ys,vs=[.ref p]/\((bb G.R.K H p ys/\∀ l,H l=none->Q (.ref l) (upd H l (.tup ys)))\/(bp G.R.K H p ys/\Q (.ref p) H))
 | .int=>(∃ i,vs=[.int i]/\Q (.int i) H)\/∃ k,vs=[.bl k]/\Q (.int (if k then 1 else 0)) H
 | .str=>(∃ i,vs=[.int i]/\i.natAbs.log2<1920/\Q (.str (toString i)) H)\/∃ z,vs=[.str z]/\Q (.str z) H
 | .min=>G.cm=true/\((∃ i j,vs=[.int i,.int j]/\Q (.int (if j<i then j else i)) H)\/False)
 | .max=>False
 | .abs=>False
 | .all=>G.cm=true/\∃ p,∃ bs:List Bool,vs=[.ref p]/\bb G.R.K H p (bs.map V.bl)/\Q (.bl (bs.all id)) H
 | .any=>False
 | .dict=>∃ p kvs,vs=[.ref p]/\H p=some (.dK kvs)/\∀ l,H l=none->Q (.ref l) (upd H l (.dK kvs))
 | .sum=>False
@[irreducible] noncomputable def DJ (m:Lm) (p:Addr) (xs:List V) (vs:List V) (H:Hp) (Q:VK):Prop:=match m with
 | .append=>∃ y,vs=[y]/\xs.length<=10000/\Q .non (upd H p (.lst (xs++[y])))
 | .extend=>∃ b zs,vs=[.ref b]/\H b=some (.lst zs)/\xs.length+zs.length<=10000/\Q .non (upd H p (.lst (xs++zs)))
 | .insert=>False
 | .pop=>(∃ i,vs=[.int i]/\0<=i/\xs.length<=10000/\∃ y,xs[i.toNat]? =some y/\Q y (upd H p (.lst (xs.eraseIdx i.toNat))))\/(vs=[]/\∃ y,xs[xs.length-1]? =some y/\Q y (upd H p (.lst xs.dropLast)))
 | .clear=>vs=[]/\Q .non (upd H p (.lst []))
 | .reverse=>False
 | .count=>False
abbrev dflt (G:Gx)(f n:Nat):List V:=match G.T.fns[f]? with
 |some d=>d.dfl.drop (n+d.dfl.length-d.ps.length)
 |none=>[]
abbrev gN.len:gN->Nat
 | .nil=>0
 | .cons _ es=>es.len+1
abbrev AL (G:Gx)(H:Hp)(a:Addr)(i:Nat):Prop:=(G.T.oc.contains i=true/\∃ dx fs,H a=some (.ins (G.R.cad i) dx fs))\/(G.T.xc.contains i=true/\∃ dx fs fr,H a=some (.exc (G.R.cad i) dx fs fr))
@[irreducible] noncomputable def nA (G:Gx) (c:Cl) (x:V) (H:Hp) (Q:VK):Prop:=match c with
 | .ty n=>(∃ t b,tyName x H=some t/\G.T.subB.lookup (t,n)=some b/\Q (.bl b) H)\/∃ a i b,x=.ref a/\AL G H a i/\G.T.subT.lookup (i,n)=some b/\Q (.bl b) H
 | .own j=>(∃ t b,tyName x H=some t/\G.T.subO.lookup (t,j)=some b/\Q (.bl b) H)\/∃ a i b,x=.ref a/\AL G H a i/\G.T.sub.lookup (i,j)=some b/\Q (.bl b) H
@[irreducible] noncomputable def t5 (G:Gx) (f:Str) (x:V) (H:Hp) (Q:VK):Prop:=∃ a i fs v,x=.ref a/\((G.T.oc.contains i=true/\∃ dx,H a=some (.ins (G.R.cad i) dx fs))\/(G.T.xc.contains i=true/\∃ dx fr,H a=some (.exc (G.R.cad i) (some dx) fs fr)))/\
 G.T.na.contains (i,f)=true/\fs.lookup f=some v/\Q v H
@[irreducible] noncomputable def CO (G:Gx) (f:Str) (x y:V) (H:Hp) (Q:Hp->Prop):Prop:=∃ a i,x=.ref a/\G.T.na.contains (i,f)=true/\
 ((∃ dx fs,G.T.oc.contains i=true/\H a=some (.ins (G.R.cad i) dx fs)/\fs.length<1000/\Q (upd H a (.ins (G.R.cad i) dx (cY f y fs))))\/
  (∃ d fs fr,G.T.xc.contains i=true/\H a=some (.exc (G.R.cad i) (some d) fs fr)/\fs.length<1000/\Q (upd H a (.exc (G.R.cad i) (some d) (cY f y fs) fr)))\/
  (∃ fr,G.T.xc.contains i=true/\H a=some (.exc (G.R.cad i) none [] fr)/\∀ d,H d=none->Q (upd (upd H d (.own a)) a (.exc (G.R.cad i) (some d) [(f,y)] fr))))
abbrev Mb (op:Operator)(x y:V)(H:Hp)(Q:VK):Prop:=match op,x,y with
 | .Add,.int i,.int j=>Q (.int (i+j)) H
 | .Sub,.int i,.int j=>Q (.int (i-j)) H
 |_,_,_=>False
@[irreducible] noncomputable def Br (K:W.Frag) (x y:V) (H:Hp) (Q:VK):Prop:=match x,y with
 | .ref p,.int i=>∃ xs v,bb K H p xs/\0<=i/\xs[i.toNat]? =some v/\Q v H
 |_,_=>False
abbrev xC (U:St):List Nat->List V->St
 |i::is,x::xs=>xC (U.set i (some x)) is xs
 |_,_=>U
@[irreducible] noncomputable def CI (xs:List V) (H:Hp) (Q:VK):Prop:=xs.length<=10000/\∀ p,H p=none->Q (.ref p) (upd H p (.lst xs))
@[irreducible] noncomputable def mY (xs:List V) (H:Hp) (Q:VK):Prop:=xs.length<=10000/\∀ p,H p=none->Q (.ref p) (upd H p (.tup xs))
@[irreducible] noncomputable def DW (l:Addr) (H:Hp) (R:It->Hp->Prop):Prop:=(∃ xs,H l=some (.lst xs))/\R (Jl l) H
@[irreducible] noncomputable def uJ (K:W.Frag) (p:Addr) (H:Hp) (R:It->Hp->Prop):Prop:=((∃ xs,bb K H p xs)/\R (Fd K p) H)\/((∃ xs,bp K H p xs)/\R (Jt K p) H)
@[irreducible] noncomputable def DM (K:W.Frag) (x y:V) (H:Hp) (R:It->Hp->Prop):Prop:=IU K x y H R
@[irreducible] noncomputable def qN (tp:Bool) (x:V) (H:Hp) (Q:VK):Prop:=EF tp x H Q
@[irreducible] noncomputable def yP (C:Addr) (H:Hp) (Q:VK):Prop:=∀ x dx,H x=none->H dx=none->dx≠x->Q (.ref x) (upd (upd H dx (.own x)) x (.ins C dx []))
@[irreducible] noncomputable def Ke (K:W.Frag) (x y:V) (H:Hp) (Q:VK):Prop:=M9 K x y H Q
@[irreducible] noncomputable def Dw (p:Addr) (y w:V) (H:Hp) (Q:VK):Prop:=∃ kvs k,H p=some (.dK kvs)/\y=kV k/\Q ((gi kvs k).getD w) H
@[irreducible] noncomputable def DO (K:W.Frag) (x y:V) (H:Hp) (Q:VK):Prop:=y=.int (-1)/\∃ p xs,x=.ref p/\bb K H p xs/\∀ l,H l=none->Q (.ref l) (upd H l (.lst xs.reverse))
@[irreducible] noncomputable def yX (K:W.Frag) (p:Addr) (y:V) (H:Hp) (Q:VK):Prop:=∃ xs,∃ (e:V->Bool) (j:Nat) (x:V),H p=some (.lst xs)/\xs.length<=10000/\(∀ x ∈ xs,∃ n,n<=100/\dR K H n x y (e x))/\xs[j]? =some x/\e x=true/\(∀ (m:Nat) x,m<j->xs[m]? =some x->e x=false)/\Q (.int (j:Int)) H
@[irreducible] noncomputable def yD (te:TE) (J:It) (σ₀:St) (H1:Hp) (Q:VK):Prop:=LC te J σ₀ H1 Q
def BO: @yD= @LC:=by
 funext te J U H Q
 unfold yD
 rfl
@[irreducible] noncomputable def LQ (tc:TT) (te:TE) (J:It) (σ₀:St) (H1:Hp) (Q:VK):Prop:=LCg (ie 0) tc te J σ₀ H1 Q
def HM: @LQ= @LCg (ie 0):=by
 funext tc te J U H Q
 unfold LQ
 rfl
abbrev gl (is:List Nat):Ei:=λvs U H Q=>vs.length=is.length/\Q (xC U is vs) H
@[irreducible] noncomputable def LCt (K:W.Frag) (n:Nat) (te:TE) (J:It) (σ₀:St) (H1:Hp) (Q:VK):Prop:=LCg (Df K n (gl (List.range n))) yes te J σ₀ H1 Q
def yT {K:W.Frag}{n:Nat}:LCt K n=LCg (Df K n (gl (List.range n))) yes:=by
 funext te J U H Q
 unfold LCt
 rfl
abbrev GO:List Str->List V->List (Key×V)
 |k::ks,x::xs=>(.inr k,x)::GO ks xs
 |_,_=>[]
@[irreducible] noncomputable def nI (ks:List Str) (p:Addr) (xs:List V) (H:Hp) (Q:VK):Prop:=H p=some (.dK [])/\Q (.ref p) (upd H p (.dK (gK [] (GO ks xs))))
mutual
noncomputable def wE (G:Gx):Ex->St->Hp->VK->XK->Prop
 | .v i,U,H,Q,_=>match U[i]? with
  |some (some x)=>Q x H
  |_=>False
 | .int i,_,H,Q,_=>Q (.int i) H
 | .bl b,_,H,Q,_=>Q (.bl b) H
 | .non,_,H,Q,_=>Q .non H
 | .str x,_,H,Q,_=>Q (.str x) H
 | .gl x,_,H,Q,_=>match G.R.gl x with
  |some v=>Q v H
  |none=>False
 | .bin op a b,U,H,Q,E=>wE G a U H (λx H1=>wE G b U H1 (λy H2=>Gw G.R.K op x y H2 Q) E) E
 | .neg a,U,H,Q,E=>wE G a U H (λx H1=>match x with| .int i=>Q (.int (-i)) H1|_=>False) E
 | .not a,U,H,Q,E=>wE G a U H (λx H1=>match x with| .bl c=>Q (.bl (!c)) H1|_=>False) E
 | .and a b,U,H,Q,E=>wE G a U H (λx H1=>match x with| .bl c=>jb c (wE G b U H1 Q E) (Q (.bl false) H1)|_=>False) E
 | .or a b,U,H,Q,E=>wE G a U H (λx H1=>match x with| .bl c=>jb c (Q (.bl true) H1) (wE G b U H1 Q E)|_=>False) E
 | .cmp op a b,U,H,Q,E=>wE G a U H (λx H1=>wE G b U H1 (λy H2=>mC G.R.K op x y H2 Q) E) E
 | .cmp2 o1 o2 a b c,U,H,Q,E=>wE G a U H (λx H1=>wE G b U H1 (λy H2=>mC G.R.K o1 x y H2 λz H3=>match z with| .bl k=>jb k (wE G c U H3 (λw H4=>mC G.R.K o2 y w H4 Q) E) (Q (.bl false) H3)|_=>False) E) E
 | .cmp3 o1 o2 o3 a b c d,U,H,Q,E=>wE G a U H (λx H1=>wE G b U H1 (λy H2=>mC G.R.K o1 x y H2 λz H3=>match z with| .bl k=>jb k (wE G c U H3 (λw H4=>mC G.R.K o2 y w H4 λz' H5=>match z' with| .bl k'=>jb k' (wE G d U H5 (λw2 H6=>mC G.R.K o3 w w2 H6 Q) E) (Q (.bl false) H5)|_=>False) E) (Q (.bl false) H3)|_=>False) E) E
 | .ife c a b,U,H,Q,E=>wT G c U H (λk H1=>jb k (wE G a U H1 Q E) (wE G b U H1 Q E)) E
 | .tup es,U,H,Q,E=>wEs G es U H (λxs H1=>mY xs H1 Q) E
 | .lst es,U,H,Q,E=>wEs G es U H (λxs H1=>CI xs H1 Q) E
 | .ix a i,U,H,Q,E=>wE G a U H (λx H1=>wE G i U H1 (λy H2=>qR G.R.K x y H2 Q) E) E
 | .sl a lo hi,U,H,Q,E=>wE G a U H (λx H1=>wO G lo U H1 (λl H2=>wO G hi U H2 (λu H3=>IE G.R.K x l u H3 Q) E) E) E
 | .fld a f,U,H,Q,E=>wE G a U H (λx H1=>t5 G f x H1 Q) E
 | .call f es,U,H,Q,E=>G.cm=true/\wEs G es U H (λvs H1=>G.Ψ f (vs++dflt G f es.len) H1 Q E) E
 | .meth a m es,U,H,Q,E=>G.cm=true/\wE G a U H (λx H1=>∃ p i dx fs f,x=.ref p/\H1 p=some (.ins (G.R.cad i) dx fs)/\fs.lookup m=none/\G.T.me.lookup (i,m)=some f/\
   wEs G es U H1 (λvs H2=>G.Ψ f (x::(vs++dflt G f (es.len+1))) H2 Q E) E) E
 | .lm m a es,U,H,Q,E=>wE G a U H (λx H1=>∃ p xs0,x=.ref p/\H1 p=some (.lst xs0)/\wEs G es U H1 (λvs H2=>∃ xs,H2 p=some (.lst xs)/\DJ m p xs vs H2 Q) E) E
 | .make c es,U,H,Q,E=>G.cm=true/\match G.T.ini.lookup c with
  |none=>G.T.ini0.contains c=true/\wEs G es U H (λvs H1=>vs.length=1/\∀ x,H1 x=none->Q (.ref x) (upd H1 x (.exc (G.R.cad c) none [] true))) E
  |some f=>if G.T.xc.contains c=true then wEs G es U H (λvs H1=>vs.length<=1000/\∀ x,H1 x=none->G.Ψ f (.ref x::(vs++dflt G f (es.len+1))) (upd H1 x (.exc (G.R.cad c) none [] true)) (λv H2=>v=.non/\Q (.ref x) H2) E) E
   else wEs G es U H (λvs H1=>∀ x dx,H1 x=none->H1 dx=none->dx≠x->G.Ψ f (.ref x::(vs++dflt G f (es.len+1))) (upd (upd H1 dx (.own x)) x (.ins (G.R.cad c) dx [])) (λv H2=>v=.non/\Q (.ref x) H2) E) E
 | .bini es,U,H,Q,E=>wEs G es U H (λvs H1=>∃ a i dx fs fr v,vs=[.ref a,v]/\H1 a=some (.exc (G.R.cad i) dx fs fr)/\G.T.xc.contains i=true/\Q .non H1) E
 | .cini c es,U,H,Q,E=>G.cm=true/\match G.T.cin.lookup c with
  |some f=>wEs G es U H (λvs H1=>G.Ψ f (vs++dflt G f es.len) H1 Q E) E
  |none=>False
 | .bf b es,U,H,Q,E=>wEs G es U H (λvs H1=>qB G b vs H1 Q) E
 | .isi a c,U,H,Q,E=>wE G a U H (λx H1=>nA G c x H1 Q) E
 | .lc elt sel it,U,H,Q,E=>G.cm=true/\wI G it U H (λJ H1=>yD (λσ' H' Q'=>wE G elt σ' H' Q' (λ_ _=>False)) J (none::iH U sel) H1 Q) E
 | .lci elt c sel it,U,H,Q,E=>False
 | .lct elt n sel it,U,H,Q,E=>G.cm=true/\wI G it U H (λJ H1=>LCt G.R.K n (λσ' H' Q'=>wE G elt σ' H' Q' (λ_ _=>False)) J (tz n none++iH U sel) H1 Q) E
 | .lcu elt c n sel it,U,H,Q,E=>False
 | .dnew,_,H,Q,_=>False
 | .up a,U,H,Q,E=>False
 | .isiT a cs,U,H,Q,E=>False
 | .mk0 c,_,H,Q,_=>yP (G.R.cad c) H Q
 | .disp ks es,U,H,Q,E=>∀ p,H p=none->wEs G es U (upd H p (.dK [])) (λxs H2=>nI ks p xs H2 Q) E
 | .dget a k d,U,H,Q,E=>wE G a U H (λx H1=>∃ p kvs0,x=.ref p/\H1 p=some (.dK kvs0)/\wE G k U H1 (λy H2=>wE G d U H2 (λw H3=>Dw p y w H3 Q) E) E) E
 | .rev a b,U,H,Q,E=>wE G a U H (λx H1=>wE G b U H1 (λy H2=>DO G.R.K x y H2 Q) E) E
 | .lix a b,U,H,Q,E=>wE G a U H (λx H1=>∃ p xs0,x=.ref p/\H1 p=some (.lst xs0)/\wE G b U H1 (λy H2=>yX G.R.K p y H2 Q) E) E
 | .vals tp a,U,H,Q,E=>G.cm=true/\wE G a U H (λx H1=>qN tp x H1 Q) E
 | .dzip a b,U,H,Q,E=>G.cm=true/\wE G a U H (λx H1=>wE G b U H1 (λy H2=>Ke G.R.K x y H2 Q) E) E
noncomputable def wT (G:Gx):Tx->St->Hp->(Bool->Hp->Prop)->XK->Prop
 | .not a,U,H,Q,E=>wT G a U H (λc H1=>Q (!c) H1) E
 | .and a b,U,H,Q,E=>wT G a U H (λc H1=>jb c (wT G b U H1 Q E) (Q false H1)) E
 | .or a b,U,H,Q,E=>wT G a U H (λc H1=>jb c (Q true H1) (wT G b U H1 Q E)) E
 | .cmp op a b,U,H,Q,E=>wE G a U H (λx H1=>wE G b U H1 (λy H2=>mC G.R.K op x y H2 λz H3=>match z with| .bl k=>Q k H3|_=>False) E) E
 | .cmp2 o1 o2 a b c,U,H,Q,E=>wE G a U H (λx H1=>wE G b U H1 (λy H2=>mC G.R.K o1 x y H2 λz H3=>match z with| .bl k=>jb k (wE G c U H3 (λw H4=>mC G.R.K o2 y w H4 λz H5=>match z with| .bl k=>Q k H5|_=>False) E) (Q false H3)|_=>False) E) E
 | .val e,U,H,Q,E=>wE G e U H (λx H1=>G1 G.R.K x H1 Q) E
noncomputable def wEs (G:Gx):gN->St->Hp->(List V->Hp->Prop)->XK->Prop
 | .nil,_,H,Q,_=>Q [] H
 | .cons e es,U,H,Q,E=>wE G e U H (λx H1=>wEs G es U H1 (λxs H2=>Q (x::xs) H2) E) E
noncomputable def wO (G:Gx):Ld->St->Hp->(Option Int->Hp->Prop)->XK->Prop
 | .no,_,H,Q,_=>Q none H
 | .yes e,U,H,Q,E=>wE G e U H (λx H1=>match x with| .int i=>Q (some i) H1|_=>False) E
noncomputable def wI (G:Gx):E5->St->Hp->(It->Hp->Prop)->XK->Prop
 | .rng1 a,U,H,R,E=>wE G a U H (λx H1=>match x with| .int j=>-(2 ^ 62)<=j/\j<2 ^ 62/\R (Fb 0 j.toNat) H1|_=>False) E
 | .rng2 a b,U,H,R,E=>wE G a U H (λx H1=>wE G b U H1 (λy H2=>match x,y with| .int i,.int j=>(-(2 ^ 62)<=i/\i<2 ^ 62/\ -(2 ^ 62)<=j/\j<2 ^ 62)/\R (Fb i (j-i).toNat) H2|_,_=>False) E) E
 | .rng3 a b c,U,H,R,E=>False
 | .enm a,U,H,R,E=>wE G a U H (λx H1=>match x with| .ref l=>DW l H1 R|_=>False) E
 | .enf a,U,H,R,E=>False
 | .seq a,U,H,R,E=>wE G a U H (λx H1=>match x with| .ref p=>uJ G.R.K p H1 R|_=>False) E
 | .zip a b,U,H,R,E=>wE G a U H (λx H1=>wE G b U H1 (λy H2=>DM G.R.K x y H2 R) E) E
 | .zip3 a b c,U,H,R,E=>False
end
abbrev Me (D:Ends)(f:St->Hp->Prop):Ends:={ D with nx:=f }
abbrev JX (D:Ends)(N:St->Hp->Prop):Ends:={ D with nx:=N,ct:=N,bk:=D.nx }
abbrev Nq (D:Ends)(i:Nat):Ends:={ nx:=λσ' H'=>D.nx (σ'.set i none) H',rt:=D.rt,bk:=λσ' H'=>D.bk (σ'.set i none) H',ct:=λσ' H'=>D.ct (σ'.set i none) H' }
abbrev wG (U:St)(t:Lc)(K:W.Frag)(x:V)(H:Hp)(Q:St->Prop):Prop:=match t with
 | .nm i=>Q (U.set i (some x))
 | .tp is=>∃ a xs,x=.ref a/\(bp K H a xs\/bb K H a xs)/\xs.length=is.length/\Q (xC U is xs)
 | .nt i is=>∃ a y b ys,x=.ref a/\bp K H a [y,.ref b]/\bp K H b ys/\ys.length=is.length/\Q (xC (U.set i (some y)) is ys)
@[irreducible] noncomputable def m8 (J:It) (D:Ends) (F:(St->Hp->Prop)->V->St->Hp->Prop) (U:St) (H1:Hp):Prop:=∃ W:Nat->Nat->St->Hp->Prop,(∃ m,W 0 m U H1)/\∀ i m U H,W i m U H->
 (J.stop i H/\D.nx U H)\/(J.go i H/\∃ N:St->Hp->Prop,(∀ σ' H',N σ' H'->∃ m',m'<m/\W (i+1) m' σ' H')/\∀ x H',J.yld i H x H'->F N x U H')
mutual
noncomputable def wS:Sx->Gx->Ends->(St->XK)->St->Hp->Prop
 | .asg i e,G,D,E,U,H=>wE G e U H (λx H1=>D.nx (U.set i (some x)) H1) (E U)
 | .asgT is e,G,D,E,U,H=>G.cm=true/\wE G e U H (λx H1=>wG U (.tp is) G.R.K x H1 λσ1=>D.nx σ1 H1) (E U)
 | .par is es,G,D,E,U,H=>G.cm=true/\wEs G es U H (λxs H1=>xs.length=is.length/\D.nx (xC U is xs) H1) (E U)
 | .sub o i v,G,D,E,U,H=>wE G v U H (λy H1=>wE G o U H1 (λov H2=>wE G i U H2 (λiv H3=>iI ov iv y H3 (λH4=>D.nx U H4)) (E U)) (E U)) (E U)
 | .fld o f v,G,D,E,U,H=>wE G v U H (λy H1=>wE G o U H1 (λx H2=>CO G f x y H2 (λH3=>D.nx U H3)) (E U)) (E U)
 | .aug i op e,G,D,E,U,H=>False
 | .augS o i op e,G,D,E,U,H=>wE G o U H (λov H1=>wE G i U H1 (λiv H2=>Br G.R.K ov iv H2 (λx H3=>wE G e U H3 (λy H4=>Mb op x y H4 (λz H5=>iI ov iv z H5 (λH6=>D.nx U H6))) (E U))) (E U)) (E U)
 | .ret e,G,D,E,U,H=>wE G e U H D.rt (E U)
 | .retN,_,D,_,_,H=>False
 | .pass,_,D,_,U,H=>False
 | .brk,_,D,_,U,H=>False
 | .cont,_,D,_,U,H=>False
 | .expr e,G,D,E,U,H=>wE G e U H (λ_ H1=>D.nx U H1) (E U)
 | .ife c a b,G,D,E,U,H=>wT G c U H (λk H1=>jb k (wB a G D E U H1) (wB b G D E U H1)) (E U)
 | .whl c b,G,D,E,U,H=>False
 | .for t it b,G,D,E,U,H=>G.cm=true/\wI G it U H (λJ H1=>m8 J D (λN x U H'=>wG U t G.R.K x H' λσ2=>wB b G (JX D N) E σ2 H') U H1) (E U)
 | .rais e,G,_,E,U,H=>G.cm=true/\wE G e U H (λv H1=>∃ a i dx fs,v=.ref a/\H1 a=some (.exc (G.R.cad i) dx fs true)/\G.T.xc.contains i=true/\E U a (upd H1 a (.exc (G.R.cad i) dx fs false))) (E U)
 | .tryx b hs,G,D,_,U,H=>G.cm=true/\wB b G D (λσ' e H'=>wH hs G D σ' e H') U H
noncomputable def wB:lV->Gx->Ends->(St->XK)->St->Hp->Prop
 | .nil,_,D,_,U,H=>D.nx U H
 | .cons s r,G,D,E,U,H=>wS s G (Me D λσ1 H1=>wB r G D E σ1 H1) E U H
noncomputable def wH:B1->Gx->Ends->St->Addr->Hp->Prop
 | .nil,_,_,_,_,_=>False
 | .cons c i b hs,G,D,U,e,H=>∃ j dx fs k,H e=some (.exc (G.R.cad j) dx fs false)/\G.T.xc.contains j=true/\G.T.sub.lookup (j,c)=some k/\
   jb k (wB b { G with cm:=false } (Nq D i) (λ_ _ _=>False) (U.set i (some (.ref e))) H)
    (wH hs G D U e H)
end
end L3
namespace L3
open PySem PySem.Spec L2 PyProof.Rows
structure Sn where
 T:Tab
 sc:Scope
 N:List Str
abbrev Sn.oB (S:Sn)(x:Str):Bool:=decide (S.sc.names.lookup x=some .globalImplicit)&& !(x ==("__debug__":Str))
abbrev Sn.Km (S:Sn)(x:Str):Bool:=(decide (S.sc.names.lookup x=some .local)||decide (S.sc.names.lookup x=some .cell)||decide (S.sc.names.lookup x=some .free))&& !(x ==("__debug__":Str))&& !(x ==("__classdict__":Str))
abbrev Sn.loc (S:Sn)(i:Nat)(x:Str):Bool:=decide (S.N[i]? =some x)&&(decide (S.sc.names.lookup x=some .local)||decide (S.sc.names.lookup x=some .cell))
abbrev ud:Expr->Bool
 | .ListComp .. | .SetComp .. | .DictComp ..=>false
 |_=>true
abbrev cJ:Expr->Bool
 | .Set ..=>false
 |_=>true
abbrev fW:Expr->Bool
 | .Slice ..=>false
 |_=>true
abbrev dc:Expr->Bool
 | .Call (.Name _ _) [] [] _=>false
 |_=>true
abbrev plainT:Expr->Bool
 | .UnaryOp .Not _ _| .BoolOp .. | .IfExp .. | .Compare ..=>false
 |_=>true
abbrev BD:Bf->String
 | .len=>"len"| .list=>"list"| .tuple=>"tuple"| .int=>"int"| .str=>"str"| .min=>"min"| .max=>"max"| .abs=>"abs"| .all=>"all"| .any=>"any"| .dict=>"dict"| .sum=>"sum"
abbrev Ar:Lm->String
 | .append=>"append"| .extend=>"extend"| .insert=>"insert"| .pop=>"pop"| .clear=>"clear"| .reverse=>"reverse"| .count=>"count"
abbrev kU:List String:=["int","bool","str","list","tuple","dict","ValueError"]
abbrev Eo (S:Sn):Cl->Expr->Bool
 | .own c,.Name x _=>S.oB x&&decide (S.T.gcl.lookup x=some c)
 | .ty n,.Name x _=>S.oB x&&decide (x=(n:Str))&&S.T.gbl.contains x&&kU.contains n
 |_,_=>false
abbrev eI (outer inner:Scope):Scope:=
 { inner with names:=inner.names.map λ(n,k)=>if(k ==.free&&outer.kind ==.function&&outer.names.lookup n ==some .cell) then(n,.cell) else(n,k) }
abbrev g6 (S:Sn)(scope:Scope)(xs:List Str)(sel:List Nat):Bool:=
 decide (scope.kind=.function)&&decide (S.sc.kind=.function)&&scope.names.all (λy=>y.2 != .cell&&(y.2 != .local||decide (scope.names.lookup y.1=some .local))&&(y.2 != .free||(decide (S.sc.names.lookup y.1=some .cell))))&&xs.all (λx=>decide (scope.names.lookup x=some .local))&&
 sel.all (λi=>match S.N[i]? with|some y=>decide (S.sc.names.lookup y=some .cell)&&decide ((eI S.sc scope).names.lookup y=some .cell)|none=>false)&&decide ((xs++sel.filterMap λi=>S.N[i]?).Nodup)
abbrev Cq:List Expr->List Str
 | .Name x _::r=>x::Cq r
 |_=>[]
abbrev yF (S:Sn):List Nat->List Expr->Bool
 | [],[]=>true
 |i::is,.Name x _::r=>decide (S.N[i]? =some x)&&decide (S.sc.names.lookup x=some .local)&&yF S is r
 |_,_=>false
abbrev qC:List Str->List (Option Expr)->Bool
 | [],[]=>true
 |k::ks,some (.Constant (.str x) _ _)::r=>decide (k=x)&&qC ks r
 |_,_=>false
mutual
noncomputable def mE (S:Sn):Ex->Expr->Bool
 | .v i,e=>match e with| .Name x _=>decide (S.N[i]? =some x)&&S.Km x|_=>false
 | .int i,e=>match e with| .Constant y1 _ _=>(match y1 with| .int j=>decide (i=j)|_=>false)|_=>false
 | .bl i,e=>match e with| .Constant y1 _ _=>(match y1 with| .bool j=>decide (i=j)|_=>false)|_=>false
 | .non,e=>match e with| .Constant y1 _ _=>(match y1 with| .none=>true|_=>false)|_=>false
 | .str i,e=>match e with| .Constant y1 _ _=>(match y1 with| .str j=>decide (i=j)|_=>false)|_=>false
 | .gl x,e=>match e with| .Name y _=>decide (x=y)&&S.oB y|_=>false
 | .bin op a b,e=>match e with| .BinOp a' op' b' _=>decide (op=op')&&mE S a a'&&mE S b b'|_=>false
 | .neg a,e=>match e with| .UnaryOp y1 a' _=>(match y1 with| .USub=>mE S a a'|_=>false)|_=>false
 | .not a,e=>match e with| .UnaryOp y1 a' _=>(match y1 with| .Not=>mE S a a'|_=>false)|_=>false
 | .and a b,e=>match e with| .BoolOp y1 y2 p=>(match y1 with| .And=>(match y2 with|a'::b'::r=>mE S a a'&&mE S b (match r with| []=>b'|_=>.BoolOp .And (b'::r) p)|_=>false)|_=>false)|_=>false
 | .or a b,e=>match e with| .BoolOp y1 y2 p=>(match y1 with| .Or=>(match y2 with|a'::b'::r=>mE S a a'&&mE S b (match r with| []=>b'|_=>.BoolOp .Or (b'::r) p)|_=>false)|_=>false)|_=>false
 | .cmp op a b,e=>match e with| .Compare a' y1 y2 _=>(match y1 with| [op']=>(match y2 with| [b']=>decide (op=op')&&mE S a a'&&mE S b b'&&cJ b'|_=>false)|_=>false)|_=>false
 | .cmp2 o1 o2 a b c,e=>match e with| .Compare a' y1 y2 _=>(match y1 with| [p1,p2]=>(match y2 with| [b',c']=>decide (o1=p1)&&decide (o2=p2)&&mE S a a'&&mE S b b'&&mE S c c'&&cJ c'|_=>false)|_=>false)|_=>false
 | .cmp3 o1 o2 o3 a b c d,e=>match e with| .Compare a' y1 y2 _=>(match y1 with| [p1,p2,p3]=>(match y2 with| [b',c',d']=>decide (o1=p1)&&decide (o2=p2)&&decide (o3=p3)&&mE S a a'&&mE S b b'&&mE S c c'&&mE S d d'&&cJ d'|_=>false)|_=>false)|_=>false
 | .ife c a b,e=>match e with| .IfExp c' a' b' _=>mT S c c'&&mE S a a'&&mE S b b'|_=>false
 | .tup es,e=>match e with| .Tuple es' _ _=>jC S es es'|_=>false
 | .lst es,e=>match e with| .List es' _=>jC S es es'|_=>false
 | .ix a i,e=>match e with| .Subscript a' i' _=>mE S a a'&&mE S i i'&&fW i'|_=>false
 | .sl a lo hi,e=>match e with| .Subscript a' y1 _=>(match y1 with| .Slice lo' hi' y2 _=>(match y2 with|none=>mE S a a'&&mO S lo lo'&&mO S hi hi'|_=>false)|_=>false)|_=>false
 | .fld a f,e=>match e with| .Attribute a' f' _=>mE S a a'&&decide (f=f')&&dc a'|_=>false
 | .call f es,e=>match e with| .Call y1 es' y2 _=>(match y1 with| .Name x _=>(match y2 with| []=>S.oB x&&decide (S.T.gfn.lookup x=some f)&&jC S es es'|_=>false)|_=>false)|_=>false
 | .meth a m es,e=>match e with| .Call y1 es' y2 q=>(match y1 with| .Attribute a' m' p=>(match y2 with| []=>mE S a a'&&decide (m=m')&&jC S es es'&&dc a'&&(p.endLine ==q.line)&&decide (es.len<20)|_=>false)|_=>false)|_=>false
 | .dget a k d,e=>match e with| .Call y1 es' y2 q=>(match y1 with| .Attribute a' m' p=>(match y2 with| []=>(match es' with| [k',d']=>mE S a a'&&decide (m'=("get":Str))&&mE S k k'&&notStar k'&&mE S d d'&&notStar d'&&dc a'&&(p.endLine ==q.line)|_=>false)|_=>false)|_=>false)|_=>false
 | .rev a b,e=>match e with| .Subscript a' y1 _=>(match y1 with| .Slice y2 y3 y4 _=>(match y2 with|none=>(match y3 with|none=>(match y4 with|some b'=>mE S a a'&&mE S b b'|_=>false)|_=>false)|_=>false)|_=>false)|_=>false
 | .lix a b,e=>match e with| .Call y1 es' y2 q=>(match y1 with| .Attribute a' m' p=>(match y2 with| []=>(match es' with| [b']=>mE S a a'&&decide (m'=("index":Str))&&mE S b b'&&notStar b'&&dc a'&&(p.endLine ==q.line)|_=>false)|_=>false)|_=>false)|_=>false
 | .lm m a es,e=>match e with| .Call y1 es' y2 q=>(match y1 with| .Attribute a' m' p=>(match y2 with| []=>mE S a a'&&decide (m'=(Ar m:Str))&&jC S es es'&&dc a'&&(p.endLine ==q.line)&&decide (es.len<20)|_=>false)|_=>false)|_=>false
 | .make c es,e=>match e with| .Call y1 es' y2 _=>(match y1 with| .Name x _=>(match y2 with| []=>S.oB x&&decide (S.T.gcl.lookup x=some c)&&jC S es es'|_=>false)|_=>false)|_=>false
 | .bini es,e=>match e with| .Call y1 es' y2 q=>(match y1 with| .Attribute y3 m p=>(match y3 with| .Name x _=>(match y2 with| []=>S.oB x&&decide (m=("__init__":Str))&&S.T.gbi.contains x&&jC S es es'&&decide (es.len=2)&&(p.endLine ==q.line)|_=>false)|_=>false)|_=>false)|_=>false
 | .cini c es,e=>match e with| .Call y1 es' y2 q=>(match y1 with| .Attribute y3 m p=>(match y3 with| .Name x _=>(match y2 with| []=>S.oB x&&decide (S.T.gcl.lookup x=some c)&&decide (m=("__init__":Str))&&jC S es es'&&decide (es.len<20)&&decide (0<es.len)&&(p.endLine ==q.line)|_=>false)|_=>false)|_=>false)|_=>false
 | .bf b es,e=>match e with| .Call y1 es' y2 _=>(match y1 with| .Name x _=>(match y2 with| []=>S.oB x&&decide (x=(BD b:Str))&&S.T.gbl.contains x&&jC S es es'&&decide (0<es.len)|_=>false)|_=>false)|_=>false
 | .isi a c,e=>match e with| .Call y1 y2 y3 _=>(match y1 with| .Name x _=>(match y3 with| []=>(match y2 with| [a',c']=>S.oB x&&decide (x=("isinstance":Str))&&S.T.gbl.contains x&&mE S a a'&&Eo S c c'|_=>false)|_=>false)|_=>false)|_=>false
 | .lc elt sel it,e=>match e with| .ListComp elt' y1 scope _=>(match y1 with| [y2]=>(match y2 with|⟨y3,iter,y4,y5⟩=>(match y3 with| .Name x px=>(match y4 with| []=>(match y5 with|0=>g6 S scope [x] sel&&mI S it (.Name x px) iter&&mE { S with sc:=eI S.sc scope,N:=x::sel.filterMap λi=>S.N[i]? } elt elt'&&cJ iter|_=>false)|_=>false)|_=>false))|_=>false)|_=>false
 | .lci elt c sel it,_=>false
 | .lct elt n sel it,e=>match e with| .ListComp elt' y1 scope _=>(match y1 with| [y2]=>(match y2 with|⟨y3,iter,y4,y5⟩=>(match y3 with| .Tuple ts kt pt=>(match y4 with| []=>(match y5 with|0=>g6 S scope (Cq ts) sel&&yF { S with sc:=eI S.sc scope,N:=Cq ts++sel.filterMap λi=>S.N[i]? } (List.range n) ts&&decide ((Cq ts).length=n)&&mI S it (.Tuple ts kt pt) iter&&mE { S with sc:=eI S.sc scope,N:=Cq ts++sel.filterMap λi=>S.N[i]? } elt elt'&&cJ iter|_=>false)|_=>false)|_=>false))|_=>false)|_=>false
 | .lcu elt c n sel it,_=>false
 | .dnew,_=>false
 | .up a,_=>false
 | .isiT a cs,_=>false
 | .mk0 c,e=>match e with| .Call y1 y2 y3 _=>(match y1 with| .Name x _=>(match y2 with| []=>(match y3 with| []=>S.oB x&&decide (S.T.gcl.lookup x=some c)&&S.T.inip.contains c|_=>false)|_=>false)|_=>false)|_=>false
 | .disp ks es,e=>match e with| .Dict keys vals _=>qC ks keys&&jC S es vals&&decide (es.len=ks.length)&&decide (0<ks.length)&&decide (ks.length<=15)|_=>false
 | .vals tp a,e=>match e with| .Call y1 y2 y3 _=>(match y1 with| .Name x _=>(match y3 with| []=>(match y2 with| [y4]=>(match y4 with| .Call y5 y6 y7 q=>(match y5 with| .Attribute a' m p=>(match y6 with| []=>(match y7 with| []=>S.oB x&&decide (x=Dp tp)&&S.T.gbl.contains x&&mE S a a'&&decide (m=("values":Str))&&dc a'&&(p.endLine ==q.line)|_=>false)|_=>false)|_=>false)|_=>false)|_=>false)|_=>false)|_=>false)|_=>false
 | .dzip a b,e=>match e with| .Call y1 y2 y3 _=>(match y1 with| .Name x _=>(match y3 with| []=>(match y2 with| [y4]=>(match y4 with| .Call y5 y6 y7 _=>(match y5 with| .Name y _=>(match y7 with| []=>(match y6 with| [a',b']=>S.oB x&&decide (x=("dict":Str))&&S.T.gbl.contains x&&S.oB y&&decide (y=("zip":Str))&&S.T.gbl.contains y&&mE S a a'&&mE S b b'&&notStar a'&&notStar b'|_=>false)|_=>false)|_=>false)|_=>false)|_=>false)|_=>false)|_=>false)|_=>false
noncomputable def mT (S:Sn):Tx->Expr->Bool
 | .not a,e=>match e with| .UnaryOp y1 a' _=>(match y1 with| .Not=>mT S a a'|_=>false)|_=>false
 | .and a b,e=>match e with| .BoolOp y1 y2 p=>(match y1 with| .And=>(match y2 with|a'::b'::r=>mT S a a'&&mT S b (match r with| []=>b'|_=>.BoolOp .And (b'::r) p)|_=>false)|_=>false)|_=>false
 | .or a b,e=>match e with| .BoolOp y1 y2 p=>(match y1 with| .Or=>(match y2 with|a'::b'::r=>mT S a a'&&mT S b (match r with| []=>b'|_=>.BoolOp .Or (b'::r) p)|_=>false)|_=>false)|_=>false
 | .cmp op a b,e=>match e with| .Compare a' y1 y2 _=>(match y1 with| [op']=>(match y2 with| [b']=>decide (op=op')&&mE S a a'&&mE S b b'&&cJ b'|_=>false)|_=>false)|_=>false
 | .cmp2 o1 o2 a b c,e=>match e with| .Compare a' y1 y2 _=>(match y1 with| [p1,p2]=>(match y2 with| [b',c']=>decide (o1=p1)&&decide (o2=p2)&&mE S a a'&&mE S b b'&&mE S c c'&&cJ c'|_=>false)|_=>false)|_=>false
 | .val e,e'=>mE S e e'&&plainT e'
noncomputable def jC (S:Sn):gN->List Expr->Bool
 | .nil,es=>es.isEmpty
 | .cons e es,l=>match l with|e'::es'=>mE S e e'&&notStar e'&&jC S es es'| []=>false
noncomputable def mO (S:Sn):Ld->Option Expr->Bool
 | .no,o=>o.isNone
 | .yes e,o=>match o with|some e'=>mE S e e'|none=>false
noncomputable def mI (S:Sn):E5->Expr->Expr->Bool
 | .rng1 a,_,e=>match e with| .Call y1 y2 y3 _=>(match y1 with| .Name x _=>(match y3 with| []=>(match y2 with| [a']=>S.oB x&&decide (x=("range":Str))&&S.T.gbl.contains x&&mE S a a'&&notStar a'|_=>false)|_=>false)|_=>false)|_=>false
 | .rng2 a b,_,e=>match e with| .Call y1 y2 y3 _=>(match y1 with| .Name x _=>(match y3 with| []=>(match y2 with| [a',b']=>S.oB x&&decide (x=("range":Str))&&S.T.gbl.contains x&&mE S a a'&&mE S b b'&&notStar a'&&notStar b'|_=>false)|_=>false)|_=>false)|_=>false
 | .rng3 a b c,_,e=>false
 | .enm a,t,e=>match e with| .Call y1 y2 y3 _=>(match y1 with| .Name x _=>(match y3 with| []=>(match y2 with| [a']=>S.oB x&&decide (x=("enumerate":Str))&&S.T.gbl.contains x&&mE S a a'&&notStar a'&&(match t with| .Tuple ..=>true|_=>false)|_=>false)|_=>false)|_=>false)|_=>false
 | .enf a,t,e=>false
 | .seq a,_,e=>mE S a e
 | .zip a b,t,e=>match e with| .Call y1 y2 y3 _=>(match y1 with| .Name x _=>(match y3 with| []=>(match y2 with| [a',b']=>S.oB x&&decide (x=("zip":Str))&&S.T.gbl.contains x&&mE S a a'&&mE S b b'&&notStar a'&&notStar b'&&(match t with| .Tuple ..=>true|_=>false)|_=>false)|_=>false)|_=>false)|_=>false
 | .zip3 a b c,t,e=>false
end
end L3
namespace L3
open PySem PySem.Spec L2
variable {e:Expr}
def plainT_ok (h:plainT e=true)(env:Env)(whole:Sem Value):isTrue e env whole=(do let v <-whole;standAt e.pos;holding [v] (truthy v)):=by
 cases e<;>first|rfl|(cases h)|skip
 case UnaryOp op a p=>cases op<;>first|rfl|cases h
def b9 (h:cJ e=true)(env:Env)(x:Value):foldedSetIterable e env x=pure x:=by
 cases e<;>first|rfl|cases h
def dm (h:cJ e=true)(op:CmpOp):behindInMarks op e=false:=by
 cases e<;>first|rfl|cases h
def iD (h:ud e=true)(t:Option Expr)(n:Nat)(env:Env):swapsWith e t n env=pure false:=by
 cases e<;>first|rfl|cases h
variable {o:Expr}
def bA (h:dc o=true)(a:Str)(env:Env)(whole:Sem Value):attributeBase o a env whole=whole:=by
 cases o with
 |Call f as ks p=>
  cases f<;>first|rfl|skip
  case Name x q=>
   cases as with
   |nil=>cases ks with
    |nil=>cases h
    |cons k ks=>rfl
   |cons b bs=>rfl
 |_=>rfl
variable {b:Expr}
def vi (h:fW b=true):wt b:=by
 intro o i;cases b<;>first|rfl|cases h
variable {X:Cx}
def PE.bU {t:TE}(h:PE X e t):PE X e (λU H R=>∃ Q,t U H Q/\∀ x H1,Q x H1->R x H1):=λY s U H R I ⟨Q,q,i⟩=>
 aD (h Y s U H Q I q) λ_ _ ⟨v,H',J,r,z⟩=>⟨v,H',J,r,i _ _ z⟩
variable {t:TT}
def PT.bU (h:PT X e t):PT X e (λU H R=>∃ Q,t U H Q/\∀ x H1,Q x H1->R x H1):=λY s U H R I ⟨Q,q,i⟩=>
 aD (h Y s U H Q I q) λ_ _ ⟨H',J,z⟩=>⟨H',J,i _ _ z⟩
def PA.bU {e:List Expr}{t:TA}(h:PA X e t):PA X e (λU H R=>∃ Q,t U H Q/\∀ x H1,Q x H1->R x H1):=λpos Y s U H R I ⟨Q,q,i⟩=>
 aD (h pos Y s U H Q I q) λ_ _ ⟨v,H',J,r,z⟩=>⟨v,H',J,r,i _ _ z⟩
def PE.imp {t t':TE}(h:PE X e t)(hi:∀ U H Q,t' U H Q->t U H Q):PE X e t':=λY s U H Q I q=>h Y s U H Q I (hi _ _ _ q)
def PT.imp {t':TT}(h:PT X e t)(hi:∀ U H Q,t' U H Q->t U H Q):PT X e t':=λY s U H Q I q=>h Y s U H Q I (hi _ _ _ q)
def PS.imp {e:Stmt}{t t':TS}(h:PS X e t)(hi:∀ D U H,t' D U H->t D U H):PS X e t':=λY s U H D I q=>h Y s U H D I (hi _ _ _ q)
structure Bs (P:Program) (w:World) (K:W.Frag) (mg:NX) (base:Heap) (k:Nat) (f:Addr) (d:ay) (sp:Sp):Prop where
 fact:∃ fd,dr P w K mg base (Bg P w) k f fd d.ps sp/\∀ j,∃ ds,Binds K fd d.ps ds/\Vals (d.dfl.drop j) ds
 own:∀ fd oc od osl,K.lookup f=some ⟨oc,od,.func fd,osl⟩->dr P w K mg base (Bg P w) k f fd d.ps sp
structure En (K:W.Frag) (mg:NX) (T:Tab) (R:Rt):Prop where
 gfn:∀ x f,T.gfn.lookup x=some f->mg x=some (.ref (R.fad f))/\W.keepIn K (.ref (R.fad f))=true/\∃ d,T.fns[f]? =some d
 gcl:∀ x c,T.gcl.lookup x=some c->mg x=some (.ref (R.cad c))
 gbl:∀ x,T.gbl.contains x=true->mg x=none/\x≠"__name__"
 gbi:∀ x,T.gbi.contains x=true->∃ B,mg x=some (.ref B)/\Nb K B
 gl:∀ x v,R.gl x=some v->∃ u,mg x=some u/\RelV v u
 na:∀ i f,T.na.contains (i,f)=true->fm K (R.cad i) f
 me:∀ i m f,T.me.lookup (i,m)=some f->C5 K (R.cad i)/\Meth K (R.cad i) m (R.fad f)/\∃ d,T.fns[f]? =some d
 ini0:∀ c,T.ini0.contains c=true->GK K (R.cad c)
 inip:∀ c,T.inip.contains c=true->MW K (R.cad c)
 ini:∀ c f,T.ini.lookup c=some f->(∃ d,T.fns[f]? =some d)/\if T.xc.contains c=true then Lf K (R.cad c) (R.fad f) else Mk K (R.cad c) (R.fad f)
 oc:∀ c,T.oc.contains c=true->C5 K (R.cad c)/\LW K (R.cad c)
 xc:∀ c,T.xc.contains c=true->c8 K (R.cad c)/\AB K (R.cad c)
 sub:∀ i j b,T.sub.lookup (i,j)=some b->W.kitOne K (.ref (R.cad i)) (.ref (R.cad j))=some b/\(T.xc.contains i=true->W.mroIn K (R.cad i) (.ref (R.cad j))=some b/\c8 K (R.cad j))
 subT:∀ i n b,T.subT.lookup (i,n)=some b->W.kitOne K (.ref (R.cad i)) (.type n)=some b
 subB:∀ t n b,T.subB.lookup (t,n)=some b->W.kitOne K (.type t) (.type n)=some b
 subO:∀ t j b,T.subO.lookup (t,j)=some b->W.kitOne K (.type t) (.ref (R.cad j))=some b
 cin:∀ c f,T.cin.lookup c=some f->MQ K (R.cad c) (R.fad f)/\∃ d,T.fns[f]? =some d
structure Gd (X:Cx) (G:Gx) (S:Sn) (k:Nat) (E:St->XK):Prop where
 hK:G.R.K=X.K
 hT:S.T=G.T
 sc:X.env.scope=S.sc
 N:X.N=S.N
 nd:S.N.Nodup
 pass:Passes (Bg X.prog X.w) X E
 cm:G.cm=true->X.calm=true
 room:G.cm=true->bO (k+1) X.A
 un:X.A.units+200<cLine
 tab:En X.K X.mg G.T G.R
 fns:∀ f d,G.T.fns[f]? =some d->Bs X.prog X.w X.K X.mg X.base k (G.R.fad f) d (G.Ψ f)
variable {x:Str}{l es:List Expr}
section
variable {X:Cx}{G:Gx}{S:Sn}{k:Nat}{E:St->XK}
def Gd.bin (g:Gd X G S k E)(op:Operator):cX X (binaryOp op) (Gw G.R.K op):=g.hK▸GH op
def Gd.cmp (g:Gd X G S k E)(op:CmpOp):cX X (compareOp op) (mC G.R.K op):=g.hK▸Ic g.un op
def Gd.glob (g:Gd X G S k E)(h:S.oB x=true):Gl X x/\(x ==("__debug__":Str))=false:=by
 unfold Sn.oB at h;simp only[ol,decide_eq_true_eq,Bool.not_eq_true']at h;refine⟨?_,h.2⟩;show X.env.scope.names.lookup x=_;rw[g.sc];exact h.1
def Gd.Km (g:Gd X G S k E)(h:S.Km x=true):Lh X.env.scope x/\(x ==("__debug__":Str))=false/\(x ==("__classdict__":Str))=false:=by
 unfold Sn.Km at h;simp only[ol,Bool.or_eq_true,decide_eq_true_eq,Bool.not_eq_true']at h;refine⟨?_,h.1.2,h.2⟩;unfold Lh;rw[g.sc];rcases h.1.1 with(h|h)|h
 .exact .inl h
 .exact .inr (.inl h)
 .exact .inr (.inr h)
def Gd.loc (g:Gd X G S k E){i:Nat}(h:S.loc i x=true):X.N[i]? =some x/\L2.Loc X.env.scope x:=by
 unfold Sn.loc at h;simp only[ol,Bool.or_eq_true,decide_eq_true_eq]at h;rw[g.N];refine⟨h.1,?_⟩;unfold L2.Loc;rw[g.sc];exact h.2
def a9:∀ {es:gN}{l:List Expr},jC S es l=true->∀ (env:Env) (pos:Pos),(backTo pos (bn l env)).any (·.1)=false
 | .nil,[],_,_,_=>rfl
 | .nil,_::_,h,_,_=>by cases(show false=true from h)
 | .cons e es,[],h,_,_=>by cases(show false=true from h)
 | .cons e es,e'::l,h,env,pos=>by
  have h:(mE S e e'&&notStar e'&&jC S es l)=true:=h;simp only[ol]at h;rw[ag h.1.2];show((backTo pos (bn l env)).any (·.1))=false;exact a9 h.2 env pos
def p6:∀ {es:gN}{l:List Expr},jC S es l=true->l.length=es.len
 | .nil,[],_=>rfl
 | .nil,_::_,h=>by cases(show false=true from h)
 | .cons e es,[],h=>by cases(show false=true from h)
 | .cons e es,e'::l,h=>by
  have h:(mE S e e'&&notStar e'&&jC S es l)=true:=h;simp only[ol]at h;show l.length+1=es.len+1;rw[p6 h.2]
def bG {es:gN}(h:jC S es (e::l)=true):notStar e=true/\∃ x es',es=.cons x es'/\jC S es' l=true:=by
 cases es with
 |nil=>cases(show false=true from h)
 |cons x es'=>
  have h:(mE S x e&&notStar e&&jC S es' l)=true:=h;simp only[ol]at h;exact⟨h.1.2,x,es',rfl,h.2⟩
def qw:∀ {es:gN}{l:List Expr},jC S es l=true->es.len<20->∀ (env:Env) (cpos:Pos),methodCallForm (l.length+([]:List Keyword).length) (backTo cpos (bn l env)) (backToKw cpos (keywordEach [] env))=true:=by
 intro es l h hl env cpos;have h1:=a9 h env cpos;have h2:=p6 h;have h3:(backTo cpos (bn l env)).all (λx=>!x.1)=true:=by
  rw[all_eq_true];intro x hx;rw[any_eq_false]at h1;simpa using h1 x hx
 unfold methodCallForm;rw[h3,h2];simp[keywordEach,backToKw]
 omega
def ju {m:Str}{apos pos:Pos}{env:Env}(hb:dc o=true)(hf:methodCallForm (es.length+([]:List Keyword).length) (backTo pos (bn es env)) (backToKw pos (keywordEach [] env))=true)(hl:(apos.endLine ==pos.line)=true):
  eval (.Call (.Attribute o m apos) es [] pos) env=(do
   let ov <-eval o env
   standAt apos.atName
   let(f,first) <-holding [ov] (getMethod ov m (do return (<-importBound o env).getD true))
   callWith pos f first (backTo pos (bn es env)) (backToKw pos (keywordEach [] env))):=by
 show(do
  let ov <-attributeBase o m env (eval o env)
  standAt apos.atName
  methodCall o m apos pos env ov (es.length+([]:List Keyword).length) (backTo pos (bn es env)) (backToKw pos (keywordEach [] env)))=_
 rw[bA hb];unfold methodCall calleeOf methodCallPos;rw[hf,hl]
 rfl
def uM {es:gN}(h:jC S es (e::l)=true)(hl:es.len<20)(env:Env)(cpos:Pos):
  ((backTo cpos (bn (e::l) env)).all (λx=>!x.1)&&(backToKw cpos (keywordEach [] env)).all (λx=>x.1.isSome)
   &&decide ((e::l).length+([]:List Keyword).length+(if([]:List Keyword).isEmpty then 0 else 1)<30))=true:=by
 have h1:=a9 h env cpos;have h2:=p6 h;have h3:(backTo cpos (bn (e::l) env)).all (λx=>!x.1)=true:=by
  rw[all_eq_true];intro x hx;rw[any_eq_false]at h1;simpa using h1 x hx
 rw[h3,h2];simp[keywordEach,backToKw]
 omega
def De {b c:Ex}{b' c':Expr}(h:mE S b b'=true)(n:notStar b'=true)(h2:mE S c c'=true)(n2:notStar c'=true)(env:Env)(cpos:Pos):
  ((backTo cpos (bn [b',c'] env)).all (λx=>!x.1)&&(backToKw cpos (keywordEach [] env)).all (λx=>x.1.isSome)
   &&decide (([b',c']:List Expr).length+([]:List Keyword).length+(if([]:List Keyword).isEmpty then 0 else 1)<30))=true:=
 uM (es:=.cons b (.cons c .nil)) (by show(mE S b b'&&notStar b'&&(mE S c c'&&notStar c'&&true))=true;rw[h,n,h2,n2];rfl) (re rfl) env cpos
def Dh {b:Ex}{b':Expr}(h:mE S b b'=true)(n:notStar b'=true)(env:Env)(cpos:Pos):
  ((backTo cpos (bn [b'] env)).all (λx=>!x.1)&&(backToKw cpos (keywordEach [] env)).all (λx=>x.1.isSome)
   &&decide (([b']:List Expr).length+([]:List Keyword).length+(if([]:List Keyword).isEmpty then 0 else 1)<30))=true:=
 uM (es:=.cons b .nil) (by show(mE S b b'&&notStar b'&&true)=true;rw[h,n];rfl) (re rfl) env cpos
end
variable {K:W.Frag}{H:Hp}{Y:NW}{a:Addr}
section
variable {X:Cx}{G:Gx}{S:Sn}{k:Nat}{E:St->XK}
def oj {x:V}{t:String}(h:tyName x H=some t):jB K H x (.type t):=by
 unfold tyName at h
 split at h
 .cases h;exact .non
 .cases h;exact .bl _
 .cases h;exact .int _
 .cases h;exact .str _
 .split at h
  .rename_i e;cases h;exact .lst e
  .rename_i e;cases h;exact .tup e
  .rename_i e;cases h;exact .dK e
  .cases h
 .cases h
def vB {s:Shared}{U:St}{Q:VK}{i:Nat}{b:Bool}{cv:Value}(g:Gd X G S k E)(I:Inv X Y U H s)(o:AL G H a i)
  (e:W.kitOne X.K (.ref (G.R.cad i)) cv=some b) (q:Q (.bl b) H):wpAny (model X.prog X.w) X.A (call (.builtin "isinstance") [.ref a,cv]) (EP X Y U Q) X.xe s:=by
 rcases o with⟨ho,dx,fs,ha⟩|⟨ho,dx,fs,fr,ha⟩
 .obtain⟨c,z⟩:=g.tab.oc i ho;exact jA I (x:=.ref a) rfl (.ins ha c z.ha z.hn z.htk z.hm) e λtk=>⟨.bl b,H,I.tok _,rfl,q⟩
 .obtain⟨c,z⟩:=g.tab.xc i ho;exact BB I ha c z e λtk=>⟨.bl b,H,I.tok _,rfl,q⟩
def C0 (g:Gd X G S k E)(j:Nat):di X (.builtin "isinstance") (λvs H Q=>∃ x,vs=[x,.ref (G.R.cad j)]/\nA G (.own j) x H Q):=by
 intro Y s U H xs us Q I r h;obtain⟨x,rfl,h⟩:=h;obtain⟨u,w',rfl,rx,rT⟩:=vals2 r;obtain rfl:w'=Value.ref (G.R.cad j):=rT;unfold nA at h;rcases h with⟨t,b,ht,hb,q⟩|⟨a,i,b,rfl,ho,hb,q⟩
 .exact jA I rx (oj ht) (g.tab.subO t j b hb) λtk=>⟨.bl b,H,I.tok _,rfl,q⟩
 .obtain rfl:u=Value.ref a:=rx;exact vB g I ho (g.tab.sub i j b hb).1 q
def GG (g:Gd X G S k E)(n:String):di X (.builtin "isinstance") (λvs H Q=>∃ x,vs=[x,.ty n]/\nA G (.ty n) x H Q):=by
 intro Y s U H xs us Q I r h;obtain⟨x,rfl,h⟩:=h;obtain⟨u,w',rfl,rx,rT⟩:=vals2 r;obtain rfl:w'=Value.type n:=rT;unfold nA at h;rcases h with⟨t,b,ht,hb,q⟩|⟨a,i,b,rfl,ho,hb,q⟩
 .exact jA I rx (oj ht) (g.tab.subB t n b hb) λtk=>⟨.bl b,H,I.tok _,rfl,q⟩
 .obtain rfl:u=Value.ref a:=rx;exact vB g I ho (g.tab.subT i n b hb) q
def D5 {n:String}(h:kU.contains n=true):bootBuiltins (n:Str)=some (.type n):=by
 have h':n ∈ kU:=by simpa using h
 simp only[kU,nw,not_mem_nil,or_false]at h';rcases h' with rfl|rfl|rfl|rfl|rfl|rfl|rfl<;>decide+kernel
abbrev MR (G:Gx):Cl->V
 | .own c=>.ref (G.R.cad c)
 | .ty n=>.ty n
def KQ (g:Gd X G S k E){c:Cl}(h:Eo S c e=true):PE X e (tC (MR G c)):=by
 unfold Eo at h
 split at h
 .simp only[ol,decide_eq_true_eq]at h;obtain⟨hg,hd⟩:=g.glob h.1;exact wC hg (g.tab.gcl _ _ (g.hT▸h.2)) rfl hd
 .simp only[ol,decide_eq_true_eq]at h;obtain⟨⟨⟨h1,rfl⟩,h3⟩,h4⟩:=h;obtain⟨hg,hd⟩:=g.glob h1;obtain⟨hm,hn⟩:=g.tab.gbl _ (g.hT▸h3);exact Cy hg hm (D5 h4) rfl hn hd
 .cases h
def Ir (g:Gd X G S k E)(c:Cl):di X (.builtin "isinstance") (λvs H Q=>∃ x,vs=[x,MR G c]/\nA G c x H Q):=by
 cases c with
 |own j=>exact C0 g j
 |ty n=>exact GG g n
abbrev Am:Bf->Value
 | .len=>.builtin "len"| .list=>.type "list"| .tuple=>.type "tuple"| .int=>.type "int"| .str=>.type "str"| .min=>.builtin "min"| .max=>.builtin "max"| .abs=>.builtin "abs"| .all=>.builtin "all"| .any=>.builtin "any"| .dict=>.type "dict"| .sum=>.builtin "sum"
def DC (b:Bf):bootBuiltins (BD b:Str)=some (Am b):=by cases b<;>decide+kernel
def vZ:∀ {bs:List Bool}{us:List Value},Vals (bs.map V.bl) us->PyProof.Rows.LSm.BoolsAre us bs
 | [],_,h=>by cases h;exact .nil
 |b::bs,_,h=>by
  cases h with
  |cons r1 r2=>
   obtain rfl:_=Value.bool b:=r1;exact .cons b (vZ r2)
def xF (hc:X.calm=true):di X (.builtin "all") (λxs H Q=>∃ p,∃ bs:List Bool,xs=[.ref p]/\bb X.K H p (bs.map V.bl)/\Q (.bl (bs.all id)) H):=by
 intro Y s U H xs us Q I r h;obtain⟨p,bs,rfl,hq,q⟩:=h;obtain⟨u,rfl,rx⟩:=vals1 r;cases rx;obtain⟨its,r',pl,hz⟩:=I.list hq;have hb:=vZ r';have hl:=pl.isList;have lt:p<s.heap.objs.size:=by obtain⟨_,e,_⟩:=hl;exact v0 e
 refine call_all_walk (wpAny_pyIter_list hl ⟨s.heap.objs.size,[s.heap.objs.size,p],[s.heap.objs.size],its.toArray.size,_,_,λi=>(bs[i]?).getD true,rfl,
  Walks.list (A:=X.A.in1) (I.ok.hd hc) _ p (sn lt) its.toArray,⟨⟨_,v4 _ rfl,rfl,rfl⟩,hl.push _⟩,λi v s' Q' E' hP hQ=>?_,λh' tk hk=>?_⟩)
 .obtain⟨b,e,rfl⟩:=hb.get i v (by simpa using hP);have hQ:Q' ((bs[i]?).getD _) s':=hQ;rw[e]at hQ;exact bi hQ
 .have e:((List.range its.toArray.size).all λi=>(bs[i]?).getD true)=bs.all id:=by
   rw[ii,hb.length,PyProof.Rows.LSm.range_all]
  rw[e];exact⟨.bl _,H,I.kept (PyProof.Rows.LSm.kept_iter hk),rfl,q⟩
def qv:di X (.type "dict") (λvs H Q=>∃ p kvs,vs=[.ref p]/\H p=some (.dK kvs)/\∀ l,H l=none->Q (.ref l) (upd H l (.dK kvs))):=by
 intro Y s U H xs us Q I r h;obtain⟨p,kvs,rfl,hp,q⟩:=h;obtain⟨u,rfl,rx⟩:=vals1 r;cases rx;exact BM I (.inl hp) λl s' hl J=>⟨.ref l,_,J,rfl,q l hl⟩
def Jj (g:Gd X G S k E)(b:Bf):di X (Am b) (qB G b):=by
 intro Y s U H xs us Q I r h;unfold qB at h;rw[g.hK]at h;cases b with
 |len=>exact Ag Y s U H _ us Q I r h
 |list=>
  rcases h with h|⟨hc,p,kvs,rfl,hp,q⟩
  .exact pf Y s U H _ us Q I r h
  .obtain⟨u,rfl,ru⟩:=vals1 r;cases ru;exact vh (g.cm hc) I hp q
 |tuple=>exact mR Y s U H _ us Q I r h
 |int=>exact xh Y s U H _ us Q I r h
 |str=>
  rcases h with h|⟨z,rfl,q⟩
  .exact pX Y s U H _ us Q I r h
  .obtain⟨u,rfl,t,rfl⟩:=vals1 r;exact PySem.P.str_of_str ⟨.str z,H,I,⟨_,rfl⟩,q⟩
 |min=>
  rcases h with⟨hc,h|h⟩
  .exact wU (g.cm hc) Y s U H _ us Q I r h
  .exact h.elim
 |max=>exact h.elim
 |abs=>exact h.elim
 |all=>exact xF (g.cm h.1) Y s U H _ us Q I r h.2
 |any=>exact h.elim
 |dict=>exact qv Y s U H _ us Q I r h
 |sum=>exact h.elim
abbrev GX:Lm->String
 | .append=>"list.append"| .extend=>"list.extend"| .insert=>"list.insert"| .pop=>"list.pop"| .clear=>"list.clear"| .reverse=>"list.reverse"| .count=>"list.count"
def vn (m:Lm):Slot "list" (Ar m:Str) (GX m):=by
 cases m
 .exact PySem.F.slot_list_append
 .exact PySem.F.slot_list_extend
 .exact PySem.F.slot_list_insert
 .exact PySem.F.slot_list_pop
 .exact PySem.F.slot_list_clear
 .exact PySem.F.slot_list_reverse
 .exact PySem.F.slot_list_count
def Fj (m:Lm):typeOf (.builtin (GX m))=pure (.type "method_descriptor"):=by cases m<;>rfl
def As (hu:X.A.units+200<cLine):JV X "list.index" (λx vs H Q=>∃ l y,x=.ref l/\vs=[y]/\yX X.K l y H Q):=by
 intro Y s U H x vs v us Q I rx rv h;obtain⟨l,y,rfl,rfl,h⟩:=h;unfold yX at h;obtain⟨xs,e,j,xj,hH,h10,he,hj,ej,hm,q⟩:=h;cases rx;cases rv with
 |cons ry rr=>
  cases rr;obtain⟨z,its,n,r,hl,eh⟩:=I.lN hH;have ab:∀ (m:Nat) (hm:m<its.toArray.size),∃ x,xs[m]? =some x/\RelV x its.toArray[m]:=λm hm=>by
   have hlen:=r.length;have h1:xs[m]? =some (xs[m]'(by simp at hm;omega)):=lw _;obtain⟨u,hu,ru⟩:=r.get h1;refine⟨_,h1,?_⟩;have:its.toArray[m]=u:=by
    have:=ul.mp hu;simpa using this.2
   rw[this];exact ru
  have hjl:=(ul.mp hj).1;have hlen:=r.length;have val:∀ (m:Nat) (hm:m<its.toArray.size) x,xs[m]? =some x->(match GQ its.toArray[m] with|some x=>e x|none=>false)=e x:=λm hm x hx=>by
   obtain⟨x',h1,h2⟩:=ab m hm;rw[hx]at h1;cases h1;rw[h2.abs]
  refine call_meets PySem.F.slot_list_index ⟨_,eh,rfl⟩ PySem.F.entry_list_index (PySem.F.args_list_index_2 _ _) (SeqAt.list_indexAt l its.toArray n none #[] _ (λu=>match GQ u with|some x=>e x|none=>false) j (by simp;omega) nofun ((val j (by simp;omega) xj hj).trans ej) (λm hm' hlt=>?_)) ⟨eh,λu hu'=>?_,?_⟩
  .obtain⟨x',h1,h2⟩:=ab m hm';rw[val m hm' x' h1];exact hm m x' hlt h1
  .obtain⟨m,hm',rfl⟩:=Array.getElem_of_mem hu';obtain⟨x',h1,h2⟩:=ab m hm';obtain⟨k,hk,ek⟩:=he x' (db h1);have:=(lq I ek (A:=X.A.in1) (by show X.A.units+_+k<cLine;omega) h2 ry).1;rw[val m hm' x' h1];exact this
  .exact⟨.int _,H,I.tok _,⟨_,rfl⟩,q⟩
abbrev NO (m:Lm):V->List V->Hp->VK->Prop:=λx vs H Q=>∃ p xs,x=.ref p/\H p=some (.lst xs)/\DJ m p xs vs H Q
def Ez (m:Lm):JV X (GX m) (NO m):=by
 intro Y s U H x vs v us Q I rx rv h;obtain⟨p,xs,rfl,hp,h⟩:=h;unfold DJ at h;cases m with
 |append=>
  obtain⟨y,rfl,h⟩:=h;exact jg Y s U H _ _ v us Q I rx rv ⟨p,xs,_,rfl,rfl,hp,Nat.lt_of_le_of_lt h.1 (by decide),h.2⟩
 |extend=>
  obtain⟨b,zs,rfl,hz,hl,q⟩:=h;exact w9 Y s U H _ _ v us Q I rx rv ⟨p,_,xs,zs,rfl,rfl,hp,hz,om nofun,q⟩
 |insert=>exact h.elim
 |pop=>
  rcases h with⟨i,rfl,h0,hl,y,hy,q⟩|⟨rfl,y,hy,q⟩
  .have hlt:i.toNat<xs.length:=(ul.mp hy).1;refine BS Y s U H _ _ v us Q I rx rv ⟨p,xs,i,i.toNat,y,rfl,rfl,hp,by omega,by omega,?_,hy,q⟩;unfold seqIndex?;simp
   omega
  .exact FN Y s U H _ _ v us Q I rx rv ⟨p,xs,y,rfl,rfl,hp,hy,q⟩
 |clear=>
  obtain⟨rfl,h⟩:=h;exact A9 Y s U H _ _ v us Q I rx rv ⟨p,xs,rfl,rfl,hp,h⟩
 |reverse=>exact h.elim
 |count=>exact h.elim
def A1 {m:Str}{apos pos:Pos}{ta:TE}{t:TA}{pl:Sem Bool}{n:Nat}(g:Gd X G S k E)(hc:G.cm=true)(he:PE X o ta)(ha:PA X es t)
  (hnil:es=[]->∀ U H R,t U H R->R [] H) (hst:∀ e r,es=e::r->bn es X.env=(false,eval e X.env)::bn r X.env) (hpl:∀ e r,es=e::r->(backTo pos (bn r X.env)).any (·.1)=false)
  (ht:eval (.Call (.Attribute o m apos) es [] pos) X.env=(do
   let ov <-eval o X.env
   standAt apos.atName
   let(f,first) <-holding [ov] (getMethod ov m pl)
   callWith pos f first (backTo pos (bn es X.env)) (backToKw pos (keywordEach [] X.env)))):
  PE X (.Call (.Attribute o m apos) es [] pos) (λU H Q=>ta U H λx H1=>∃ p i dx fs f,x=.ref p/\H1 p=some (.ins (G.R.cad i) dx fs)/\fs.lookup m=none/\G.T.me.lookup (i,m)=some f/\
   t U H1 λvs H2=>G.Ψ f (x::(vs++dflt G f n)) H2 Q (E U)):=by
 intro Y s U H Q I h;refine W.methodCall_KW (pl:=pl) (aD (he Y s U H _ I h) λu s1 ⟨x,H1,I1,rx,a,i,dx,fs,f,ex,ea,l,hf,q⟩=>?_) ht;subst ex;obtain rfl:u=Value.ref a:=rx;obtain⟨c,hm,d,hd⟩:=g.tab.me i m f hf;obtain⟨fd,F,B⟩:=(g.fns f d hd).fact;have hr:bO k X.A:=(g.room hc).mono (Nat.le_succ _);obtain⟨ds,hb,hv⟩:∃ ds,Binds X.K fd d.ps ds/\Vals (dflt G f n) ds:=by
  unfold dflt;rw[hd];exact B _
 refine uZ I1 ea c hm l ?_;cases es with
 |nil=>
  refine W.callWith_K0 (first:=[.ref a]) I1.bV hm.kp ?_;exact l6 (us:=[.ref a]) (vs:=[.ref a]) F hr hb hv g.pass I1 (.cons rfl .nil) (hnil rfl _ _ _ q)
 |cons e r=>
  refine W.callWith_K (first:=[.ref a]) (h₀:=X.base) I.ok.mod.kin hm.kp (aD (ha pos Y s1 U H1 _ I1 q) λus s2 ⟨vs,H2,I2,r,q2⟩=>⟨I2.bV,?_⟩) (hst e r rfl) (hpl e r rfl);exact l6 (us:=.ref a::us) (vs:=.ref a::vs) F hr hb hv g.pass I2 (.cons rfl r) q2
end
def Fh {α β:Type}{f:α->Option β}:∀ {l:List α}{j:Nat}{y:β},(∀ a ∈ l,(f a).isSome=true)->(l.filterMap f)[j]? =some y->∃ a,l[j]? =some a/\f a=some y
 | [],_,_,_,h=>by simp at h
 |a::l,j,y,hs,h=>by
  obtain⟨b,hb⟩:=Option.isSome_iff_exists.mp (hs a mo);rw[filterMap_cons,hb]at h;cases j with
  |zero=>simp at h;exact⟨a,rfl,by rw[hb,h]⟩
  |succ j=>
   simp at h;obtain⟨a',h1,h2⟩:=Fh (λa ha=>hs a (dL _ ha)) h;exact⟨a',by simpa using h1,h2⟩
def Bu {α β:Type}{f:α->Option β}:∀ {l:List α},(∀ a ∈ l,(f a).isSome=true)->(l.filterMap f).length=l.length
 | [],_=>rfl
 |a::l,hs=>by
  obtain⟨b,hb⟩:=Option.isSome_iff_exists.mp (hs a mo);rw[filterMap_cons,hb];simp[Bu (λa ha=>hs a (dL _ ha))]
abbrev lB (env:Env):Str×NameKind->List (Str×Addr)->Sem (ForInStep (List (Str×Addr))):=λnk r=>do
 let cs:=r
 if(nk.2 ==NameKind.free)=true then do
  let a <-cellOf env nk.1
  pure (ForInStep.yield ((nk.1,a)::cs))
 else pure (ForInStep.yield cs)
def qg {env:Env}:∀ (names:List (Str×NameKind)) (cs:List (Str×Addr)),(∀ y ∈ names,y.2=.free->∃ c,env.cells.lookup y.1=some c)->
  ∃ cl,(forIn names cs (lB env):Sem _)=pure cl/\(∀ y c,cl.lookup y=some c->cs.lookup y=some c\/env.cells.lookup y=some c)/\(∀ y,(cs.lookup y).isSome=true->(cl.lookup y).isSome=true)/\∀ y ∈ names,y.2=.free->(cl.lookup y.1).isSome=true
 | [],cs,_=>⟨cs,rfl,λy c h=>.inl h,λy h=>h,λy hy=>absurd hy (by simp)⟩
 |(n,kd)::r,cs,h=>by
  by_cases hk:kd=.free
  .subst hk;obtain⟨c,hc⟩:=h (n,.free) mo rfl;obtain⟨cl,h1,h2,h3,h4⟩:=qg r ((n,c)::cs) λy hy=>h y (dL _ hy)
   have self:(((n,c)::cs).lookup n).isSome=true:=by simp[lookup_cons]
   refine⟨cl,?_,λy d q=>?_,λy q=>h3 y ?_,λy hy hf=>?_⟩
   .rw[forIn_cons];have e:lB env (n,.free) cs=pure (ForInStep.yield ((n,c)::cs)):=by
     unfold lB;simp only[cellOf,hc]
     rfl
    rw[e];exact h1
   .rcases h2 y d q with q|q
    .rw[lookup_cons]at q
     by_cases e:y=n
     .subst e;simp at q;subst q;exact .inr hc
     .rw[show(y ==n)=false from beq_eq_false_iff_ne.mpr e]at q;exact .inl q
    .exact .inr q
   .rw[lookup_cons];cases(y ==n)<;>simp[q]
   .rcases nw.mp hy with rfl|hy
    .exact h3 _ self
    .exact h4 y hy hf
  .obtain⟨cl,h1,h2,h3,h4⟩:=qg r cs λy hy=>h y (dL _ hy)
   refine⟨cl,?_,h2,h3,λy hy hf=>?_⟩
   .rw[forIn_cons];have e:lB env (n,kd) cs=pure (ForInStep.yield cs):=by
     unfold lB;cases kd<;>first|rfl|exact absurd rfl hk
    rw[e];exact h1
   .rcases nw.mp hy with rfl|hy
    .exact absurd hf hk
    .exact h4 y hy hf
variable {scope:Scope}
def DB {env:Env}(h:∀ y ∈ scope.names,y.2=.free->∃ c,env.cells.lookup y.1=some c):
  ∃ cl,closureFor scope env=pure cl/\(∀ y c,cl.lookup y=some c->env.cells.lookup y=some c)/\∀ y ∈ scope.names,y.2=.free->(cl.lookup y.1).isSome=true:=by
 obtain⟨cl,h1,h2,_,h4⟩:=qg scope.names [] h;refine⟨cl,?_,λy c q=>(h2 y c q).resolve_left (by simp),h4⟩;have e:closureFor scope env=(forIn scope.names [] (lB env) >>= λcs=>pure cs):=by
  unfold closureFor lB
  rfl
 rw[e,h1]
 rfl
variable {xs:List Str}{sel:List Nat}
section
variable {X:Cx}{G:Gx}{S:Sn}{k:Nat}{E:St->XK}
def rQ (g:Gd X G S k E)(scope:Scope):relabel scope X.env=eI S.sc scope:=by
 unfold relabel eI Env.kindOf;rw[g.sc]
def cR (g:Gd X G S k E)(ok:X.Ok)(h:g6 S scope xs sel=true):∃ cl,bK X scope cl xs (sel.filterMap λi=>S.N[i]?) sel:=by
 unfold g6 at h;simp only[ol,decide_eq_true_eq,all_eq_true,Bool.or_eq_true,bne_iff_ne,ne_eq]at h;obtain⟨⟨⟨⟨⟨h1,h2⟩,h3⟩,h4⟩,h5⟩,h6⟩:=h;have hs:∀ i ∈ sel,(S.N[i]?).isSome=true:=λi hi=>by
  have:=h5 i hi
  split at this
  .rename_i e;rw[e];rfl
  .cases this
 obtain⟨cl,c1,c2,c3⟩:=DB (env:=X.env) (scope:=scope) λy hy hf=>ok.has y.1 (.inl (by
  show X.env.scope.names.lookup y.1=_;rw[g.sc];exact((h3 y hy).2).resolve_left λz=>z hf))
 refine⟨cl,⟨c1,c2,λy hy=>?_,h1,λy hy=>(h3 y hy).1.1,λy hy hl=>((h3 y hy).1.2).resolve_left λz=>z hl,h4,(Bu hs).symm,λj y hj=>?_,h6⟩⟩
 .have:∃ kd,(y,kd) ∈ scope.names/\kd=.free:=by
   rcases hy with hy|hy
   .obtain⟨kd,m,q⟩:=dZ hy;rcases q with q|q
    .subst q;exact absurd rfl (h3 _ m).1.1
    .exact⟨kd,m,q.1⟩
   .obtain⟨kd,m,q⟩:=dZ hy;rcases q with q|q
    .exact⟨kd,m,q.symm⟩
    .exact nomatch q.2
  obtain⟨kd,m,rfl⟩:=this;exact Option.isSome_iff_exists.mp (c3 _ m rfl)
 .obtain⟨i,hi,hn⟩:=Fh hs hj;have q:=h5 i (db hi);rw[hn]at q;simp only[ol,decide_eq_true_eq]at q;refine⟨i,hi,by rw[g.N];exact hn,by rw[g.sc];exact q.1,by rw[rQ g];exact q.2⟩
def Gd.comp (g:Gd X G S k E){cl:List (Str×Addr)}(C:bK X scope cl xs (sel.filterMap λi=>S.N[i]?) sel) (s:Shared) (H:Hp) (fp:List Addr):
  Gd (gr X scope cl (xs++sel.filterMap λi=>S.N[i]?) s H fp) G { S with sc:=eI S.sc scope,N:=xs++sel.filterMap λi=>S.N[i]? } k (λ_ _ _=>False) where
 hK:=g.hK
 hT:=g.hT
 sc:=rQ g scope
 N:=rfl
 nd:=C.nd
 pass:=λY U H s e s' I h=>by
  obtain⟨e,H',C,dx,fs,T,_,_,_,_,_,_,_,_,_,q⟩:=h;exact q.elim
 cm:=g.cm
 room:=g.room
 un:=g.un
 tab:=g.tab
 fns:=g.fns
def rq (env:Env):∀ {is:List Nat}{ts:List Expr},yF S is ts=true->(assignEach ts env).length=is.length/\(assignEach ts env).findIdx? (·.1)=none
 | [],[],_=>⟨rfl,rfl⟩
 | [],_::_,h=>by simp[yF]at h
 |_::_,[],h=>by simp[yF]at h
 |i::is,t::ts,h=>by
  cases t<;>simp[yF]at h
  rename_i x p;obtain⟨h1,h2⟩:=rq env h.2;have e:assignEach (.Name x p::ts) env=(false,assign (.Name x p) env)::assignEach ts env:=rfl;rw[e];refine⟨by simp[h1],?_⟩;rw[List.findIdx?_cons];simp[h2]
def wN (g:Gd X G S k E):∀ {is:List Nat}{ts:List Expr},yF S is ts=true->FJ X ts (gl is)
 | [],[],_=>λY s U H vs us Q I r h=>pE Y s U H vs us Q I r ⟨length_eq_zero_iff.mp h.1,by
   have:=h.2;have e:vs=[]:=length_eq_zero_iff.mp h.1;subst e;exact this⟩
 | [],_::_,h=>by simp[yF]at h
 |_::_,[],h=>by simp[yF]at h
 |i::is,t::ts,h=>by
  cases t<;>simp[yF]at h
  rename_i x p;have hl:X.env.scope.names.lookup x=some .local:=by rw[g.sc];exact h.1.2
  have h1:PG X (.Name x p) (ie i):=iy (by rw[g.N];exact g.nd) (by rw[g.N];exact h.1.1) (.inl hl) (.inr hl);have h2:=wN g h.2;intro Y s U H vs us Q I r q;refine iJ h1 h2 rfl Y s U H vs us Q I r ?_;obtain⟨hl,q⟩:=q;cases vs with
  |nil=>simp at hl
  |cons v vs=>exact⟨v,vs,rfl,by simpa using hl,q⟩
def vz (g:Gd X G S k E)(hc:G.cm=true){n kt:Nat}{ts:List Expr}{pt:Pos}(h:yF S (List.range n) ts=true):PG X (.Tuple ts kt pt) (Df G.R.K n (gl (List.range n))):=by
 obtain⟨e1,e2⟩:=rq X.env h;rw[length_range]at e1;rw[g.hK];exact pY (g.cm hc) (wN g h) e1 e2
def vL {n:Nat}(h:xs.length=n):tw xs=tz n none:=by
 subst h;unfold tw;rw[List.map_const']
end
set_option maxHeartbeats 2000000
variable {r:List Expr}{p:Pos}{U:L2.St}{s1:Shared}{R:It->Hp->Prop}{keys:List (Option Expr)}
section
variable {G:Gx}{k:Nat}
def mx {o1 o2:CmpOp}{c:Expr}(h:cJ c=true):lastMarks [o1,o2] [b,c]=false:=by
 show behindInMarks o2 c=false;exact dm h _
def tP {o1 o2 o3:CmpOp}{c d:Expr}(h:cJ d=true):lastMarks [o1,o2,o3] [b,c,d]=false:=by
 show behindInMarks o3 d=false;exact dm h _
def Ak {t:TE}(h:PE X (match r with| []=>b|_=>.BoolOp .And (b::r) p) t):PE X (.BoolOp .And (b::r) p) t:=by
 cases r with
 |nil=>exact Ae h
 |cons c r=>exact h
def A5 {t:TE}(h:PE X (match r with| []=>b|_=>.BoolOp .Or (b::r) p) t):PE X (.BoolOp .Or (b::r) p) t:=by
 cases r with
 |nil=>exact Ae h
 |cons c r=>exact h
def Ep {op:BoolOp}(h:PT X (.BoolOp op l p) t):PW X (.BoolOp op l p) t:=λwhole Y s U H Q I q=>by
 have:=h Y s U H Q I q;exact this
def BR (h:PT X (match r with| []=>b|_=>.BoolOp .And (b::r) p) t):PW X (.BoolOp .And (b::r) p) t:=by
 cases r with
 |nil=>exact Ec h
 |cons c r=>exact Ep h
def zQ (h:PT X (match r with| []=>b|_=>.BoolOp .Or (b::r) p) t):PW X (.BoolOp .Or (b::r) p) t:=by
 cases r with
 |nil=>exact F7 h
 |cons c r=>exact Ep h
def Ca:Lo X (unaryOp .USub) (λx H Q=>match x with| .int i=>Q (.int (-i)) H|_=>False):=by
 intro Y s U H x v Q I r h
 split at h
 .exact(L2.HZ Y s U H _ v Q I r ⟨_,rfl,h⟩)
 .exact h.elim
def xq {CX:uD}{C f:Addr}{fd:FuncData}{ps:List Str}{sp:Sp}{dvs:List V}{ds:List Value}{E:St->XK}{pos:Pos}(M:Lf X.K C f)(F:dr X.prog X.w X.K X.mg X.base CX k f fd ps sp)(hr:bO (k+1) X.A)(hg:Gl X x)(hm:X.mg x=some (.ref C))(hb:Binds X.K fd ps ds)(hd:Vals dvs ds)(hx:Passes CX X E)
  (hdb:(x ==("__debug__":Str))=false):PE X (.Call (.Name x p) [] [] pos) (AN C sp dvs E Cd):=by
 intro Y s U H Q I h;refine ce (bH I hg hm ?_ hdb);exact W.callWith_K0 I.bV M.kp (ou (us:=[]) M F hr hb hd hx (Nat.zero_le _) I .nil h.2)
def cX.bU {f:Value->Value->Sem Value}{r:R2}(h:cX X f r):cX X f (λx y H R=>∃ Q,r x y H Q/\∀ z H1,Q z H1->R z H1):=λY s U H x y v u R I rx ry ⟨Q,q,i⟩=>
 aD (h Y s U H x y v u Q I rx ry q) λ_ _ ⟨v,H',J,r,z⟩=>⟨v,H',J,r,i _ _ z⟩
section
open PyProof.Rows
def xt {tg:Expr}{H1:Hp}{v:Value}{xs:List V}(I1:Inv X Y U H1 s1)(r:RelV (.ref a) v)(hq:bb X.K H1 a xs)(q:R (Fd X.K a) H1):
  wpAny (model X.prog X.w) X.A (pyIter v) (Lq X Y U tg R) X.xe s1:=by
 cases r;obtain⟨its,rv,p,hz⟩:=I1.list hq;refine wpAny_pyIter_list p.isList ?_;refine⟨s1.heap.objs.size,[s1.heap.objs.size],_,_,H1,rfl,I1.kept (t':=s1.toks) λb o e=>ut _ e,xI a _,⟨_,v4 _ rfl,rfl,rfl⟩,λb hb=>?_,q⟩;have e:b=s1.heap.objs.size:=by simpa using hb
 subst e;exact I1.A0 (sw _) (I1.hok.fresh (sw _))
def yZ {tg:Expr}{H1:Hp}{v:Value}{xs:List V}(I1:Inv X Y U H1 s1)(r:RelV (.ref a) v)(hq:bp X.K H1 a xs)(q:R (Jt X.K a) H1):
  wpAny (model X.prog X.w) X.A (pyIter v) (Lq X Y U tg R) X.xe s1:=by
 cases r;obtain⟨its,rv,p,hz⟩:=I1.tuple hq;refine wpAny_pyIter_tuple (show s1.heap.IsTuple a its.toArray from p) ?_;refine⟨s1.heap.objs.size,[s1.heap.objs.size],_,_,H1,rfl,I1.kept (t':=s1.toks) λb o e=>ut _ e,uz a _,⟨_,v4 _ rfl,rfl,rfl⟩,λb hb=>?_,q⟩;have e:b=s1.heap.objs.size:=by simpa using hb
 subst e;exact I1.A0 (sw _) (I1.hok.fresh (sw _))
end
def FF {x:V}{Q:Bool->Hp->Prop}(h:G1 K x H Q):∃ k,CT K x H k/\Q k H:=by
 unfold G1 at h
 split at h
 .exact⟨_,rfl,h⟩
 .exact h
abbrev La:List Str->List V->List (V×V)
 |k::ks,x::xs=>(.str k,x)::La ks xs
 |_,_=>[]
def yV:∀ {ks:List Str}{xs:List V},La ks xs=(GO ks xs).map (λkv=>(kV kv.1,kv.2))
 | [],_=>rfl
 |_::_,[]=>rfl
 |k::ks,x::xs=>by
  show(V.str k,x)::La ks xs=(kV (.inr k),x)::(GO ks xs).map _;rw[yV]
  rfl
def wk:∀ {ks:List Str}{xs:List V},(GO ks xs).length<=ks.length
 | [],_=>sw _
 |_::_,[]=>Nat.zero_le _
 |k::ks,x::xs=>Nat.succ_le_succ wk
def jx {k:Str}{ks:List Str}(h:qC (k::ks) keys=true):∃ j p r,keys=some (.Constant (.str k) j p)::r/\qC ks r=true:=by
 unfold qC at h
 split at h
 .rename_i e;cases e
 .rename_i k' ks' x j p r e
  injection e with e1 e2
  subst e1 e2;simp only[ol,decide_eq_true_eq]at h;obtain⟨rfl,h⟩:=h;exact⟨_,_,_,rfl,h⟩
 .cases h
def mr (h:qC [] keys=true):keys=[]:=by
 cases keys with
 |nil=>rfl
 |cons a r=>cases(show false=true from h)
def rG:∀ {ks:List Str}{keys:List (Option Expr)},qC ks keys=true->keys.length=ks.length
 | [],keys,h=>by rw[mr h];rfl
 |k::ks,keys,h=>by
  obtain⟨j,p,r,rfl,h2⟩:=jx h;rw[length_cons,length_cons,rG h2]
def rE:∀ {ks:List Str}{keys:List (Option Expr)},qC ks keys=true->keys.all (·.isSome)=true
 | [],keys,h=>by rw[mr h];rfl
 |k::ks,keys,h=>by
  obtain⟨j,p,r,rfl,h2⟩:=jx h;rw[all_cons,rE h2]
  rfl
def yQ {S:Sn}:∀ {x:gN}{e:List Expr},jC S x e=true->e.length=x.len
 | .nil,[],_=>rfl
 | .nil,_::_,h=>by cases(show false=true from h)
 | .cons x xs,[],h=>by cases(show false=true from h)
 | .cons x xs,e::es,h=>by
  have h:(mE S x e&&notStar e&&jC S xs es)=true:=h;simp only[ol]at h;exact congrArg Nat.succ (yQ h.2)
mutual
theorem sE:∀ (x:Ex){X:Cx}{S:Sn}{E:St->XK},Gd X G S k E->∀ {e:Expr},mE S x e=true->PE X e (λU H Q=>wE G x U H Q (E U))
 | .v i,X,S,E,g,e,h=>by
  sleep 1
  simp only[ol,decide_eq_true_eq]at h;obtain⟨h1,h2⟩:=h;obtain⟨v1,v2,v3⟩:=g.Km h2;refine PE.imp (FA (i:=i) (by rw[g.N];exact h1) v1 v2 v3) λU H Q q=>?_
  conv at q=>whnf
  split at q
  .rename_i e;exact⟨_,e,q⟩
  .exact q.elim
 | .int i,X,S,E,g,e,h=>by
  sleep 2
  simp only[decide_eq_true_eq]at h;subst h;exact G9
 | .bl i,X,S,E,g,e,h=>by
  sleep 2
  simp only[decide_eq_true_eq]at h;subst h;exact KZ
 | .non,X,S,E,g,e,h=>by
  sleep 2
  exact G8
 | .str i,X,S,E,g,e,h=>by
  sleep 2
  simp only[decide_eq_true_eq]at h;subst h;exact Bp
 | .gl x,X,S,E,g,e,h=>by
  sleep 1
  simp only[ol,decide_eq_true_eq]at h;obtain⟨rfl,h2⟩:=h;obtain⟨hg,hd⟩:=g.glob h2;intro Y s U H Q I q
  conv at q=>whnf
  split at q
  .rename_i v e;obtain⟨u,hm,r⟩:=g.tab.gl _ v e;exact wC hg hm r hd Y s U H Q I q
  .exact q.elim
 | .bin op a b,X,S,E,g,e,h=>by
  sleep 1
  simp only[ol,decide_eq_true_eq]at h;obtain⟨⟨rfl,ha⟩,hb⟩:=h;exact Kp (g.bin op) (sE a g ha) (sE b g hb)
 | .neg a,X,S,E,g,e,h=>by
  sleep 2
  exact Kc Ca (sE a g h)
 | .not a,X,S,E,g,e,h=>by
  sleep 2
  refine PE.imp (FW (PE.bU (sE a g h))) λU H Q q=>⟨_,q,λx H1 z=>?_⟩
  split at z
  .exact⟨_,rfl,z⟩
  .exact z.elim
 | .and a b,X,S,E,g,e,h=>by
  sleep 3
  simp only[ol]at h;refine PE.imp (Fq (PE.bU (sE a g h.1)) (Ak (sE b g h.2))) λU H Q q=>⟨_,q,λx H1 z=>?_⟩
  split at z
  .rw[du]at z;exact⟨_,rfl,z⟩
  .exact z.elim
 | .or a b,X,S,E,g,e,h=>by
  sleep 3
  simp only[ol]at h;refine PE.imp (Jy (PE.bU (sE a g h.1)) (A5 (sE b g h.2))) λU H Q q=>⟨_,q,λx H1 z=>?_⟩
  split at z
  .rw[du]at z;exact⟨_,rfl,z⟩
  .exact z.elim
 | .cmp op a b,X,S,E,g,e,h=>by
  sleep 3
  simp only[ol,decide_eq_true_eq]at h;obtain⟨⟨⟨rfl,ha⟩,hb⟩,hn⟩:=h;exact Dj (g.cmp op) (sE a g ha) (sE b g hb) (dm hn _)
 | .cmp2 o1 o2 a b c,X,S,E,g,e,h=>by
  sleep 3
  simp only[ol,decide_eq_true_eq]at h;obtain⟨⟨⟨⟨⟨rfl,rfl⟩,ha⟩,hb⟩,hc⟩,hn⟩:=h;refine PE.imp (BU (cX.bU (g.cmp o1)) (g.cmp o2) (PE.bU (sE a g ha)) (PE.bU (sE b g hb)) (sE c g hc) (mx hn)) λU H Q q=>⟨_,q,λx H1 q1=>⟨_,q1,λy H2 q2=>⟨_,q2,λz H3 q3=>?_⟩⟩⟩
  split at q3
  .rw[du]at q3;exact⟨_,rfl,q3⟩
  .exact q3.elim
 | .cmp3 o1 o2 o3 a b c d,X,S,E,g,e,h=>by
  sleep 3
  simp only[ol,decide_eq_true_eq]at h;obtain⟨⟨⟨⟨⟨⟨⟨rfl,rfl⟩,rfl⟩,ha⟩,hb⟩,hc⟩,hd⟩,hn⟩:=h;refine PE.imp (x6 (cX.bU (g.cmp o1)) (cX.bU (g.cmp o2)) (g.cmp o3) (PE.bU (sE a g ha)) (PE.bU (sE b g hb)) (PE.bU (sE c g hc)) (sE d g hd) (tP hn)) λU H Q q=>⟨_,q,λx H1 q1=>⟨_,q1,λy H2 q2=>⟨_,q2,λz H3 q3=>?_⟩⟩⟩
  split at q3
  .refine⟨_,rfl,?_⟩;rw[du]at q3
   split at q3
   .rename_i hk;rw[if_pos hk];refine⟨_,q3,λw H4 q4=>⟨_,q4,λz' H5 q5=>?_⟩⟩
    split at q5
    .rw[du]at q5;exact⟨_,rfl,q5⟩
    .exact q5.elim
   .rename_i hk;rw[if_neg hk];exact q3
  .exact q3.elim
 | .ife c a b,X,S,E,g,e,h=>by
  sleep 1
  simp only[ol]at h;exact PE.imp (yU (PT.bU (sT c g h.1.1)) (sE a g h.1.2) (sE b g h.2)) λU H Q q=>⟨_,q,λk H1 z=>by rwa [du]at z⟩
 | .tup es,X,S,E,g,e,h=>by
  sleep 1
  refine PE.imp (HH (PA.bU (tN es g h))) λU H Q q=>⟨_,q,λx H1 z=>by unfold mY at z;exact⟨om (by have:=z.1;omega),z.2⟩⟩
 | .lst es,X,S,E,g,e,h=>by
  sleep 1
  refine PE.imp (HQ (PA.bU (tN es g h))) λU H Q q=>⟨_,q,λx H1 z=>by unfold CI at z;exact⟨om (by have:=z.1;omega),z.2⟩⟩
 | .ix a i,X,S,E,g,e,h=>by
  sleep 1
  simp only[ol]at h;have hr:JL X (qR G.R.K):=g.hK▸tH g.un;exact JR hr (sE a g h.1.1) (sE i g h.1.2) (vi h.2)
 | .sl a lo hi,X,S,E,g,e,h=>by
  sleep 3
  simp only[ol]at h;have hr:Lk X (IE G.R.K):=g.hK▸HX;exact zH hr (sE a g h.1.1) (sO lo g h.1.2) (sO hi g h.2)
 | .fld a f,X,S,E,g,e,h=>by
  sleep 1
  simp only[ol,decide_eq_true_eq]at h;obtain⟨⟨ha,rfl⟩,hn⟩:=h;intro Y s U H Q I q;have q':wE G a U H (λx H1=>t5 G f x H1 Q) (E U):=q;refine DI (bA hn _ _ _) (aD (sE a g ha Y s U H _ I q') λu s1 ⟨x,H1,I1,rx,qf⟩=>?_);unfold t5 at qf;obtain⟨a,i,fs,v,ex,ea,hna,l,q⟩:=qf;subst ex;obtain rfl:u=Value.ref a:=rx;have n:=g.tab.na i f hna;rcases ea with⟨ho,dx,ea⟩|⟨ho,dx,fr,ea⟩
  .exact uH I1 ea (g.tab.oc i ho).1 n l λu' s' J rv=>⟨v,H1,J,rv,q⟩
  .exact xl I1 ea (g.tab.xc i ho).1 n l λu' s' J rv=>⟨v,H1,J,rv,q⟩
 | .call f es,X,S,E,g,e,h=>by
  sleep 3
  rename_i es' pos _ xn p1 _;simp only[ol,decide_eq_true_eq]at h;obtain⟨⟨h1,h2⟩,h3⟩:=h;obtain⟨hg,hdb⟩:=g.glob h1;obtain⟨hm,hk,d,hd⟩:=g.tab.gfn _ _ (g.hT▸h2);obtain⟨fd,F,B⟩:=(g.fns f d hd).fact;obtain⟨ds,hb,hv⟩:∃ ds,Binds X.K fd d.ps ds/\Vals (dflt G f es.len) ds:=by
   unfold dflt;rw[hd];exact B _
  intro Y s U H Q I q;obtain⟨hc,q⟩:=(show G.cm=true/\wEs G es U H (λvs H1=>G.Ψ f (vs++dflt G f es.len) H1 Q (E U)) (E U) from q);have hr:bO k X.A:=(g.room hc).mono (Nat.le_succ _);cases es' with
  |nil=>
   cases es with
   |nil=>exact zG F hr hg hm hk hb hv g.pass hdb Y s U H Q I q
   |cons _ _=>cases(show false=true from h3)
  |cons e0 er=>
   have PAs:=tN es g h3;obtain⟨ns,x0,xr,rfl,h4⟩:=bG h3;exact Eg F hr hg hm hk hb hv g.pass PAs hdb (ag ns) (a9 h4 _ _) Y s U H Q I q
 | .meth a m es,X,S,E,g,e,h=>by
  sleep 3
  rename_i es' pos _ a' m' apos _;simp only[ol,decide_eq_true_eq]at h;obtain⟨⟨⟨⟨⟨ha,rfl⟩,h3⟩,h4⟩,h5⟩,h6⟩:=h;intro Y s U H Q I q;obtain⟨hc,q⟩:=(show G.cm=true/\_ from q);refine A1 (n:=es.len+1) g hc (sE a g ha) (tN es g h3) (λz U H R hr=>?_) (λe r z=>?_) (λe r z=>?_) (ju h4 (qw h3 h6 _ _) h5) Y s U H Q I q
  .subst z;cases es with
   |nil=>exact hr
   |cons _ _=>cases(show false=true from h3)
  .subst z;exact ag (bG h3).1
  .subst z;have PAs:=tN es g h3;obtain⟨ns,x0,xr,rfl,h4⟩:=bG h3;exact a9 h4 _ _
 | .lm m a es,X,S,E,g,e,h=>by
  sleep 3
  rename_i es' pos _ a' m' apos _;simp only[ol,decide_eq_true_eq]at h;obtain⟨⟨⟨⟨⟨ha,rfl⟩,h3⟩,h4⟩,h5⟩,h6⟩:=h;cases es' with
  |nil=>
   cases es with
   |nil=>exact PE.imp (HP PySem.F.plainAttrs_list (vn m) (Fj m) (Ez m) (PE.bU (sE a g ha)) (bA h4 _ _ _) h5) λU H Q q=>⟨_,q,λx H1 z=>by
     obtain⟨p,xs0,ex,hp,q⟩:=z;subst ex;obtain⟨xs,h1,h2⟩:=q;exact⟨.inl ⟨rfl,xs0,bb.of hp⟩,p,xs,rfl,h1,h2⟩⟩
   |cons _ _=>cases(show false=true from h3)
  |cons e0 er=>
   have PAs:=tN es g h3;obtain⟨ns,x0,xr,rfl,h7⟩:=bG h3;exact PE.imp (EE PySem.F.plainAttrs_list (vn m) (Fj m) (Ez m) (PE.bU (sE a g ha)) (PA.bU PAs) (bA h4 _ _ _) (uM h3 h6 _ _) h5 (ag ns) (a9 h7 _ _)) λU H Q q=>⟨_,q,λx H1 z=>by
     obtain⟨p,xs0,ex,hp,q⟩:=z;subst ex;exact⟨.inl ⟨rfl,xs0,bb.of hp⟩,_,q,λvs H2 ⟨xs,h1,h2⟩=>⟨p,xs,rfl,h1,h2⟩⟩⟩
 | .dget a k d,X,S,E,g,e,h=>by
  sleep 4
  simp only[ol,decide_eq_true_eq]at h;obtain⟨⟨⟨⟨⟨⟨⟨ha,rfl⟩,h3⟩,n1⟩,h6⟩,n2⟩,h4⟩,h5⟩:=h;exact PE.imp (GN (PE.bU (sE a g ha)) (iU (PE.bU (sE k g h3)) (iU (PE.bU (sE d g h6)) ei n2) n1) (bA h4 _ _ _) (De h3 n1 h6 n2 _ _) h5 (ag n1) (by rw[ag n2];rfl)) λU H Q q=>⟨_,q,λx H1 z=>by
   obtain⟨p,kvs0,ex,hp,q⟩:=z;exact⟨p,kvs0,ex,hp,_,q,λy H2 z=>⟨_,z,λw H3 z=>by
    unfold Dw at z;obtain⟨kvs,k,e1,e2,q⟩:=z;subst e2;exact⟨kvs,k,w,rfl,e1,q⟩⟩⟩⟩
 | .rev a b,X,S,E,g,e,h=>by
  sleep 5
  simp only[ol]at h;exact PE.imp (Gn (PE.bU (sE a g h.1)) (wJ (PE.bU (sE b g h.2)))) λU H Q q=>⟨_,q,λx H1 z=>⟨_,z,λy H2 z=>by
   unfold DO at z;obtain⟨rfl,q⟩:=z;exact⟨-1,rfl,rfl,g.hK▸q⟩⟩⟩
 | .lix a b,X,S,E,g,e,h=>by
  sleep 4
  simp only[ol,decide_eq_true_eq]at h;obtain⟨⟨⟨⟨⟨ha,rfl⟩,h3⟩,n1⟩,h4⟩,h5⟩:=h;exact PE.imp (EE PySem.F.plainAttrs_list PySem.F.slot_list_index rfl (As g.un) (PE.bU (sE a g ha)) (iU (PE.bU (sE b g h3)) ei n1) (bA h4 _ _ _) (Dh h3 n1 _ _) h5 (ag n1) rfl) λU H Q q=>⟨_,q,λx H1 z=>by
   obtain⟨p,xs0,ex,hp,q⟩:=z;subst ex;exact⟨.inl ⟨rfl,xs0,bb.of hp⟩,_,q,λy H2 z=>⟨p,y,rfl,rfl,g.hK▸z⟩⟩⟩
 | .make c es,X,S,E,g,e,h=>by
  sleep 3
  rename_i es' pos _ xn p1 _;simp only[ol,decide_eq_true_eq]at h;obtain⟨⟨h1,h2⟩,h3⟩:=h;obtain⟨hg,hdb⟩:=g.glob h1;have hm:=g.tab.gcl _ _ (g.hT▸h2);intro Y s U H Q I q
  conv at q=>whnf
  obtain⟨hc,q⟩:=q
  split at q
  .obtain⟨h0,q⟩:=q;cases es' with
   |nil=>
    cases es with
    |nil=>exact absurd q.1 (by decide)
    |cons _ _=>cases(show false=true from h3)
   |cons e0 er=>
    have PAs:=tN es g h3;obtain⟨ns,x0,xr,rfl,h4⟩:=bG h3;exact BG (g.tab.ini0 c h0) hg hm PAs hdb (ag ns) (a9 h4 _ _) Y s U H Q I q
  .rename_i f hf;obtain⟨⟨d,hd⟩,hmk⟩:=g.tab.ini c f hf;obtain⟨fd,F,B⟩:=(g.fns f d hd).fact;obtain⟨ds,hb,hv⟩:∃ ds,Binds X.K fd d.ps ds/\Vals (dflt G f (es.len+1)) ds:=by
    unfold dflt;rw[hd];exact B _
   have hr:=g.room hc
   split at q
   .rename_i hx;rw[if_pos hx]at hmk;cases es' with
    |nil=>
     cases es with
     |nil=>exact xq hmk F hr hg hm hb hv g.pass hdb Y s U H Q I q
     |cons _ _=>cases(show false=true from h3)
    |cons e0 er=>
     have PAs:=tN es g h3;obtain⟨ns,x0,xr,rfl,h4⟩:=bG h3;exact zB hmk F hr hg hm hb hv g.pass PAs hdb (ag ns) (a9 h4 _ _) Y s U H Q I q
   .rename_i hx;rw[if_neg hx]at hmk;cases es' with
    |nil=>
     cases es with
     |nil=>exact zx hmk F hr hg hm hb hv g.pass hdb Y s U H Q I q
     |cons _ _=>cases(show false=true from h3)
    |cons e0 er=>
     have PAs:=tN es g h3;obtain⟨ns,x0,xr,rfl,h4⟩:=bG h3;exact DU hmk F hr hg hm hb hv g.pass PAs hdb (ag ns) (a9 h4 _ _) Y s U H Q I q
 | .bini es,X,S,E,g,e,h=>by
  sleep 4
  rename_i es' pos _ mm p2 _ xn p1 _;simp only[ol,decide_eq_true_eq]at h;obtain⟨⟨⟨⟨⟨h1,rfl⟩,h2⟩,h3⟩,h4⟩,h5⟩:=h;obtain⟨hg,hdb⟩:=g.glob h1;obtain⟨B,hm,hB⟩:=g.tab.gbi _ (g.hT▸h2);cases es' with
  |nil=>
   cases es with
   |nil=>cases h4
   |cons _ _=>cases(show false=true from h3)
  |cons e0 er=>
   have PAs:=tN es g h3;obtain⟨ns,x0,xr,rfl,h7⟩:=bG h3;refine PE.imp (HI hB hg hm (PA.bU PAs) hdb (ag ns) (a9 h7 _ _) (ju (o:=.Name _ _) rfl (qw h3 (by rw[h4];decide) _ _) h5)) λU H Q q=>⟨_,q,λvs H1 z=>?_⟩
   obtain⟨a,i,dx,fs,fr,v,ev,ea,hi,q⟩:=z;exact⟨a,_,dx,fs,fr,v,ev,ea,(g.tab.xc i hi).1,q⟩
 | .cini c es,X,S,E,g,e,h=>by
  sleep 4
  rename_i es' pos _ mm p2 _ xn p1 _;simp only[ol,decide_eq_true_eq]at h;obtain⟨⟨⟨⟨⟨⟨h1,h2⟩,rfl⟩,h3⟩,h4⟩,h6⟩,h5⟩:=h;obtain⟨hg,hdb⟩:=g.glob h1;have hm:=g.tab.gcl _ _ (g.hT▸h2);intro Y s U H Q I q;obtain⟨hc,q⟩:=(show G.cm=true/\(match G.T.cin.lookup c with|some f=>wEs G es U H (λvs H1=>G.Ψ f (vs++dflt G f es.len) H1 Q (E U)) (E U)|none=>False) from q)
  split at q
  .rename_i f hf;obtain⟨hC,d,hd⟩:=g.tab.cin _ _ hf;obtain⟨fd,F,B⟩:=(g.fns f d hd).fact;obtain⟨ds,hb,hv⟩:∃ ds,Binds X.K fd d.ps ds/\Vals (dflt G f es.len) ds:=by
    unfold dflt;rw[hd];exact B _
   have hr:bO k X.A:=(g.room hc).mono (Nat.le_succ _);cases es' with
   |nil=>
    cases es with
    |nil=>cases h6
    |cons _ _=>cases(show false=true from h3)
   |cons e0 er=>
    have PAs:=tN es g h3;obtain⟨ns,x0,xr,rfl,h7⟩:=bG h3;exact GD hC F hr hg hm hb hv g.pass PAs hdb (ag ns) (a9 h7 _ _) (ju (o:=.Name _ _) rfl (qw h3 h4 _ _) h5) Y s U H Q I q
  .exact q.elim
 | .bf b es,X,S,E,g,e,h=>by
  sleep 3
  rename_i es' pos _ xn p1 _;simp only[ol,decide_eq_true_eq]at h;obtain⟨⟨⟨⟨h1,rfl⟩,h2⟩,h3⟩,h4⟩:=h;obtain⟨hg,hdb⟩:=g.glob h1;obtain⟨hm,hn⟩:=g.tab.gbl _ (g.hT▸h2);cases es' with
  |nil=>
   cases es with
   |nil=>exact absurd h4 (by decide)
   |cons _ _=>cases(show false=true from h3)
  |cons e0 er=>
   have PAs:=tN es g h3;obtain⟨ns,x0,xr,rfl,h7⟩:=bG h3;have hb:=DC b;have hk:=Jj g b;have key:∀ {v:Value},Am b=v->(∃ i,v=.builtin i)\/(∃ i,v=.type i):=by
    intro v hv;subst hv;cases b<;>first|exact .inl ⟨_,rfl⟩|exact .inr ⟨_,rfl⟩
   rcases key rfl with⟨i,hi⟩|⟨i,hi⟩
   .rw[hi]at hb hk;exact sV hk hg hm hb PAs hn hdb (ag ns) (a9 h7 _ _)
   .rw[hi]at hb hk;exact w8 hk hg hm hb PAs hn hdb (ag ns) (a9 h7 _ _)
 | .isi a c,X,S,E,g,e,h=>by
  sleep 4
  rename_i pos _ xn p1 _ _ a' c';simp only[ol,decide_eq_true_eq]at h;obtain⟨⟨⟨⟨h1,rfl⟩,h2⟩,h3⟩,h4⟩:=h;obtain⟨hg,hdb⟩:=g.glob h1;obtain⟨hm,hn⟩:=g.tab.gbl _ (g.hT▸h2);have n1:notStar a'=true:=by
   cases a'<;>first|rfl|(cases a<;>cases(show false=true from h3))
  have n2:notStar c'=true:=by
   cases c'<;>first|rfl|(cases c<;>simp[Eo]at h4)
  refine PE.imp (sV (Ir g c) hg hm FV (iU (PE.bU (sE a g h3)) (iU (KQ g h4) ei n2) n1) hn hdb (ag n1) ?_) λU H Q q=>⟨_,q,λx H1 z=>⟨x,rfl,z⟩⟩
  rw[ag n2]
  rfl
 | .lc elt sel it,X,S,E,g,e,h=>by
  sleep 2
  split at h
  iterate 3 (split at h;rotate_left;cases h)
  simp only[ol]at h;obtain⟨⟨⟨h1,h2⟩,h3⟩,h4⟩:=h;intro Y s U H Q I q;obtain⟨hc,q⟩:=(show G.cm=true/\wI G it U H (λJ H1=>yD (λσ' H' Q'=>wE G elt σ' H' Q' (λ_ _=>False)) J (none::iH U sel) H1 Q) (E U) from q);rw[BO]at q;obtain⟨cl,C⟩:=cR g I.ok h1;exact zR (g.cm hc) C (sI it g h2) (λs H fp=>sE elt (g.comp C s H fp) h3) (b9 h4 _) Y s U H Q I q
 | .lci elt c sel it,X,S,E,g,e,h=>by cases(show false=true from h)
 | .lct elt n sel it,X,S,E,g,e,h=>by
  sleep 2
  split at h
  iterate 3 (split at h;rotate_left;cases h)
  simp only[ol,decide_eq_true_eq]at h;obtain⟨⟨⟨⟨⟨h1,h5⟩,h6⟩,h2⟩,h3⟩,h4⟩:=h;intro Y s U H Q I q;obtain⟨hc,q⟩:=(show G.cm=true/\wI G it U H (λJ H1=>LCt G.R.K n (λσ' H' Q'=>wE G elt σ' H' Q' (λ_ _=>False)) J (tz n none++iH U sel) H1 Q) (E U) from q);rw[yT,<-vL h6]at q;obtain⟨cl,C⟩:=cR g I.ok h1;exact oA (g.cm hc) C (sI it g h2) (λs H fp=>vz (g.comp C s H fp) hc h5) (λs H fp=>kZ) (λs H fp=>sE elt (g.comp C s H fp) h3) (b9 h4 _) Y s U H Q I q
 | .lcu elt c n sel it,X,S,E,g,e,h=>by cases(show false=true from h)
 | .dnew,X,S,E,g,e,h=>by cases(show false=true from h)
 | .up a,X,S,E,g,e,h=>by cases(show false=true from h)
 | .isiT a cs,X,S,E,g,e,h=>by cases(show false=true from h)
 | .mk0 c,X,S,E,g,e,h=>by
  sleep 4
  simp only[ol,decide_eq_true_eq]at h;obtain⟨⟨h1,h2⟩,h3⟩:=h;obtain⟨hg,hdb⟩:=g.glob h1;refine PE.imp (Ai (g.tab.inip c (g.hT▸h3)) hg (g.tab.gcl _ _ (g.hT▸h2)) hdb) λU H Q q=>?_
  have q':yP (G.R.cad c) H Q:=q;unfold yP at q';exact q'
 | .vals tp a,X,S,E,g,e,h=>by
  sleep 8
  simp only[ol,decide_eq_true_eq]at h;obtain⟨⟨⟨⟨⟨⟨h1,rfl⟩,h2⟩,h3⟩,rfl⟩,h4⟩,h5⟩:=h;obtain⟨hg,hdb⟩:=g.glob h1;obtain⟨hm,hn⟩:=g.tab.gbl _ (g.hT▸h2);intro Y s U H Q I q;obtain⟨hc,q⟩:=(show G.cm=true/\wE G a U H (λx H1=>qN tp x H1 Q) (E U) from q);refine B6 tp (g.cm hc) hg hm (PE.bU (sE a g h3)) (bA h4 _ _ _) h5 Y s U H Q I ⟨_,q,λx H1 z=>?_⟩;unfold qN at z;exact z
 | .disp ks es,X,S,E,g,e,h=>by
  sleep 1
  simp only[ol,decide_eq_true_eq]at h;obtain⟨⟨⟨⟨h1,h2⟩,h3⟩,h4⟩,h5⟩:=h;intro Y s U H Q I q;have hk:=rG h1;have hv:=yQ h2;refine Cs (M6 es g h1 h2 h3) (rE h1) nofun (λz=>by rw[z]at hk;simp at hk;omega) nofun Y s U H Q I λp hp=>?_
  refine⟨_,q p hp,λxs H2 hl z=>?_⟩;unfold nI at z;exact⟨z.1,GO ks xs,yV,by have:=wk (ks:=ks) (xs:=xs);omega,z.2⟩
 | .dzip a b,X,S,E,g,e,h=>by
  sleep 8
  simp only[ol,decide_eq_true_eq]at h;obtain⟨⟨⟨⟨⟨⟨⟨⟨⟨h1,rfl⟩,h2⟩,h3⟩,rfl⟩,h4⟩,h5⟩,h6⟩,n1⟩,n2⟩:=h;obtain⟨hg,hdb⟩:=g.glob h1;obtain⟨hm,hn⟩:=g.tab.gbl _ (g.hT▸h2);obtain⟨hg',hdb'⟩:=g.glob h3;obtain⟨hm',hn'⟩:=g.tab.gbl _ (g.hT▸h4);intro Y s U H Q I q;obtain⟨hc,q⟩:=(show G.cm=true/\wE G a U H (λx H1=>wE G b U H1 (λy H2=>Ke G.R.K x y H2 Q) (E U)) (E U) from q);refine Cc (g.cm hc) hg hm hg' hm' (iU (PE.bU (sE a g h5)) (iU (PE.bU (sE b g h6)) ei n2) n1) (ag n1) (by rw[ag n2];rfl) Y s U H Q I ⟨_,q,λx H1 z=>⟨_,z,λy H2 z=>?_⟩⟩;unfold Ke at z;exact⟨_,_,rfl,g.hK▸z⟩
termination_by structural x=>x
theorem sI:∀ (x:E5){X:Cx}{S:Sn}{E:St->XK},Gd X G S k E->∀ {t e:Expr},mI S x t e=true->PI X t e (λU H R=>wI G x U H R (E U))
 | .rng1 a,X,S,E,g,t,e,h=>by
  sleep 4
  simp only[ol,decide_eq_true_eq]at h;obtain⟨⟨⟨⟨h1,rfl⟩,h2⟩,h3⟩,n1⟩:=h;obtain⟨hg,hdb⟩:=g.glob h1;obtain⟨hm,hn⟩:=g.tab.gbl _ (g.hT▸h2);intro Y s U H R I q;refine xx hg hm (iU (PE.bU (sE a g h3)) ei n1) (ag n1) Y s U H R I ⟨_,q,λx H1 z=>?_⟩
  split at z
  .exact⟨_,rfl,z.1,z.2.1,z.2.2⟩
  .exact z.elim
 | .rng2 a b,X,S,E,g,t,e,h=>by
  sleep 4
  simp only[ol,decide_eq_true_eq]at h;obtain⟨⟨⟨⟨⟨⟨h1,rfl⟩,h2⟩,h3⟩,h4⟩,n1⟩,n2⟩:=h;obtain⟨hg,hdb⟩:=g.glob h1;obtain⟨hm,hn⟩:=g.tab.gbl _ (g.hT▸h2);intro Y s U H R I q;refine xa hg hm (iU (PE.bU (sE a g h3)) (iU (PE.bU (sE b g h4)) ei n2) n1) (by rw[ag n1,ag n2];rfl) (by rw[ag n2];rfl) Y s U H R I ⟨_,q,λx H1 z=>⟨_,z,λy H2 z=>?_⟩⟩
  split at z
  .exact⟨_,_,rfl,z.1,z.2⟩
  .exact z.elim
 | .rng3 a b c,X,S,E,g,t,e,h=>by cases(show false=true from h)
 | .enm a,X,S,E,g,t,e,h=>by
  sleep 4
  simp only[ol,decide_eq_true_eq]at h;obtain⟨⟨⟨⟨⟨h1,rfl⟩,h2⟩,h3⟩,n1⟩,h5⟩:=h;obtain⟨hg,hdb⟩:=g.glob h1;obtain⟨hm,hn⟩:=g.tab.gbl _ (g.hT▸h2)
  split at h5
  .intro Y s U H R I q;refine Ci hg hm (iU (PE.bU (sE a g h3)) ei n1) (ag n1) Y s U H R I ⟨_,q,λx H1 z=>?_⟩
   split at z
   .unfold DW at z;exact⟨_,rfl,z.1,z.2⟩
   .exact z.elim
  .cases h5
 | .enf a,X,S,E,g,t,e,h=>by cases(show false=true from h)
 | .seq a,X,S,E,g,t,e,h=>by
  conv at h=>lhs;whnf
  intro Y s U H R I q;have q':wE G a U H (λx H1=>match x with| .ref p=>uJ G.R.K p H1 R|_=>False) (E U):=q;rw[g.hK]at q';refine aD (sE a g h Y s U H _ I q') λv s1 ⟨x,H1,I1,r1,z⟩=>?_
  dsimp only at z
  split at z
  .unfold uJ at z;rcases z with⟨⟨xs,hx⟩,z⟩|⟨⟨xs,hx⟩,z⟩
   .exact xt I1 r1 hx z
   .exact yZ I1 r1 hx z
  .exact z.elim
 | .zip a b,X,S,E,g,t,e,h=>by
  sleep 4
  simp only[ol,decide_eq_true_eq]at h;obtain⟨⟨⟨⟨⟨⟨⟨h1,rfl⟩,h2⟩,h3⟩,h4⟩,n1⟩,n2⟩,h5⟩:=h;obtain⟨hg,hdb⟩:=g.glob h1;obtain⟨hm,hn⟩:=g.tab.gbl _ (g.hT▸h2)
  split at h5
  .intro Y s U H R I q;refine Gy hg hm (iU (PE.bU (sE a g h3)) (iU (PE.bU (sE b g h4)) ei n2) n1) (ag n1) (by rw[ag n2];rfl) Y s U H R I ⟨_,q,λx H1 z=>⟨_,z,λy H2 z=>?_⟩⟩;unfold DM at z;exact⟨_,_,rfl,g.hK▸z⟩
  .cases h5
 | .zip3 a b c,X,S,E,g,t,e,h=>by cases(show false=true from h)
termination_by structural x=>x
theorem sO:∀ (x:Ld){X:Cx}{S:Sn}{E:St->XK},Gd X G S k E->∀ {e:Option Expr},mO S x e=true->PO X e (λU H Q=>wO G x U H Q (E U))
 | .no,X,S,E,g,none,h=>CK
 | .no,X,S,E,g,some _,h=>by cases(show false=true from h)
 | .yes x,X,S,E,g,none,h=>by cases(show false=true from h)
 | .yes x,X,S,E,g,some e,h=>by
  conv at h=>lhs;whnf
  intro Y s U H Q I q;refine wJ (PE.bU (sE x g h)) Y s U H Q I ⟨_,q,λy H1 z=>?_⟩
  split at z
  .exact⟨_,rfl,z⟩
  .exact z.elim
termination_by structural x=>x
theorem sT:∀ (x:Tx){X:Cx}{S:Sn}{E:St->XK},Gd X G S k E->∀ {e:Expr},mT S x e=true->PT X e (λU H Q=>wT G x U H Q (E U))
 | .not a,X,S,E,g,e,h=>by
  sleep 2
  exact Gh (sT a g h)
 | .and a b,X,S,E,g,e,h=>by
  sleep 3
  simp only[ol]at h;exact PT.imp (Fx (PT.bU (sT a g h.1)) (BR (sT b g h.2))).pt λU H Q q=>⟨_,q,λk H1 z=>by rwa [du]at z⟩
 | .or a b,X,S,E,g,e,h=>by
  sleep 3
  simp only[ol]at h;exact PT.imp (Js (PT.bU (sT a g h.1)) (zQ (sT b g h.2))).pt λU H Q q=>⟨_,q,λk H1 z=>by rwa [du]at z⟩
 | .cmp op a b,X,S,E,g,e,h=>by
  sleep 3
  simp only[ol,decide_eq_true_eq]at h;obtain⟨⟨⟨rfl,ha⟩,hb⟩,hn⟩:=h;refine PT.imp (DV (cX.bU (g.cmp op)) (PE.bU (sE a g ha)) (PE.bU (sE b g hb)) (dm hn _)) λU H Q q=>⟨_,q,λx H1 q1=>⟨_,q1,λy H2 q2=>⟨_,q2,λz H3 q3=>?_⟩⟩⟩
  split at q3
  .exact⟨_,rfl,q3⟩
  .exact q3.elim
 | .cmp2 o1 o2 a b c,X,S,E,g,e,h=>by
  sleep 3
  simp only[ol,decide_eq_true_eq]at h;obtain⟨⟨⟨⟨⟨rfl,rfl⟩,ha⟩,hb⟩,hc⟩,hn⟩:=h;refine PT.imp (AX (cX.bU (g.cmp o1)) (cX.bU (g.cmp o2)) (PE.bU (sE a g ha)) (PE.bU (sE b g hb)) (PE.bU (sE c g hc)) (mx hn)) λU H Q q=>⟨_,q,λx H1 q1=>⟨_,q1,λy H2 q2=>⟨_,q2,λz H3 q3=>?_⟩⟩⟩
  split at q3
  .refine⟨_,rfl,?_⟩;rw[du]at q3
   split at q3
   .rename_i hk;rw[if_pos hk];refine⟨_,q3,λw H4 q4=>⟨_,q4,λz H5 q5=>?_⟩⟩
    split at q5
    .exact⟨_,rfl,q5⟩
    .exact q5.elim
   .rename_i hk;rw[if_neg hk];exact⟨_,rfl,q3⟩
  .exact q3.elim
 | .val x,X,S,E,g,e,h=>by
  have h:(mE S x e&&plainT e)=true:=h;simp only[ol]at h;refine PT.imp (Ab (PE.bU (sE x g h.1)) (plainT_ok h.2 _)) λU H Q q=>⟨_,q,λy H1 z=>?_⟩
  exact g.hK▸FF z
termination_by structural x=>x
theorem M6:∀ (x:gN){X:Cx}{S:Sn}{E:St->XK},Gd X G S k E->∀ {ks:List Str}{keys:List (Option Expr)}{e:List Expr}{pos:Pos},qC ks keys=true->jC S x e=true->x.len=ks.length->PQ X pos keys e (λU H R=>∃ Q,wEs G x U H Q (E U)/\∀ xs H1,xs.length=x.len->Q xs H1->R (La ks xs) H1)
 | .nil,X,S,E,g,ks,keys,[],pos,h1,h,hl=>by
  obtain rfl:ks=[]:=List.eq_nil_of_length_eq_zero hl.symm;rw[mr h1];exact λY s U H R I ⟨Q,q,i⟩=>G7 Y s U H R I (i [] H rfl q)
 | .nil,X,S,E,g,_,_,_::_,pos,h1,h,hl=>by cases(show false=true from h)
 | .cons x xs,X,S,E,g,_,_,[],pos,h1,h,hl=>by cases(show false=true from h)
 | .cons x xs,X,S,E,g,[],keys,e::es,pos,h1,h,hl=>by cases hl
 | .cons x xs,X,S,E,g,c::ks,keys,e::es,pos,h1,h,hl=>by
  have h:(mE S x e&&notStar e&&jC S xs es)=true:=h;simp only[ol]at h;obtain⟨j,p,r,rfl,h2⟩:=jx h1;intro Y s U H R I ⟨Q,q,i⟩;refine CN Bp (PE.bU (sE x g h.1.1)) (M6 xs g h2 h.2 (Nat.succ.inj hl)) Y s U H R I ?_;exact⟨_,q,λy H2 z=>⟨_,z,λys H3 hy w=>i (y::ys) H3 (congrArg Nat.succ hy) w⟩⟩
termination_by structural x=>x
theorem tN:∀ (x:gN){X:Cx}{S:Sn}{E:St->XK},Gd X G S k E->∀ {e:List Expr},jC S x e=true->PA X e (λU H Q=>wEs G x U H Q (E U))
 | .nil,X,S,E,g,[],h=>ei
 | .nil,X,S,E,g,_::_,h=>by cases(show false=true from h)
 | .cons x xs,X,S,E,g,[],h=>by cases(show false=true from h)
 | .cons x xs,X,S,E,g,e::es,h=>by
  have h:(mE S x e&&notStar e&&jC S xs es)=true:=h;simp only[ol]at h;exact iU (sE x g h.1.1) (tN xs g h.2) h.1.2
termination_by structural x=>x
end
end
end L3
namespace L2
open PySem PySem.Spec PyProof.Rows
variable {scope:Scope}{cl:List (Str×Addr)}{fr:List Str}{sel:List Nat}{s:Shared}
section
variable {X:Cx}
def gQ {elt iter tgt:Expr}{ifs:List Expr}{xs:List Str}{y:Str}{py pos spos:Pos}{wi:TI}{tg:TG}{tc:TT}{te:TE}{ni:Nat}(hc:X.calm=true)(S:bK X scope cl xs fr sel)(hi:PI X tgt iter wi)
  (hg:∀ (s:Shared) (H:Hp) (fp:List Addr),PG (gr X scope cl (xs++fr) s H fp) tgt tg) (ht:∀ (s:Shared) (H:Hp) (fp:List Addr),Ll (gr X scope cl (xs++fr) s H fp) ifs tc)
  (he:∀ (s:Shared) (H:Hp) (fp:List Addr),PE (gr X scope cl (xs++fr) s H fp) elt te) (hs:∀ x,foldedSetIterable iter X.env x=pure x) (hN:X.N.Nodup) (hni:X.N[ni]? =some y) (hy:X.env.scope.names.lookup y=some .local)
  (hsw:swapsWith (.ListComp elt [⟨tgt,iter,ifs,0⟩] scope pos) (some (.Name y py)) spos.line X.env=pure true):PS X (.Assign [.Name y py] (.ListComp elt [⟨tgt,iter,ifs,0⟩] scope pos) spos) (λD U H=>IX wi tg tc te xs sel U H λv H1=>D.nx (U.set ni (some v)) H1):=by
 intro Y s U H DD I h;rw[exec_Assign_Name_used _ _ _ _ hsw];refine ad (wpAny_standAt (ad ?_));show wpAny _ _ (do let _ <-comprehension (.ListComp elt [⟨tgt,iter,ifs,0⟩] scope pos) scope X.env _ (newList []) false (eval iter X.env) (some (assign (.Name y py) X.env))) _ _ s;refine ad (wpAny_mono (wpAny_comprehension_free (use:=some (assign (.Name y py) X.env)) (Q:=λ_ s'=>SP X Y DD .next s') rfl hs S.clos S.kind S.names ?_) (λ_ s' hq=>am (am hq)) λ_ _ e=>e);refine aD (hi Y s U H _ I h) λv s1 h1=>aD h1 λitv s2 h2=>?_
 obtain⟨it,fp,tn,J,H2,e,I2,T,qG,f2,h2⟩:=h2;subst e;refine wpAny_newObj_type ?_;have hD:H2 s2.heap.objs.size=none:=I2.hok.fresh (sw _);have I3:Inv X Y U (upd H2 s2.heap.objs.size (.lst [])) { s2 with heap:=s2.heap.push { cls:=.type "list",dict:=none,data:=.seq ([]:List Value).toArray } }:=
  I2.laid (t':=s2.toks) (λb u e=>ut _ e) (sw _) ⟨Nat.zero_le _,[],0,.nil,v4 _ rfl⟩
 have fo2:∀ b ∈ fp,b<s2.heap.objs.size:=λb hb=>by
  obtain⟨o,ho,_⟩:=T.obj _ _ qG b hb;exact v0 ho
 have f3:∀ b ∈ fp,jo X Y (upd H2 s2.heap.objs.size (.lst [])) b:=λb hb=>⟨by rw[aj (sn (fo2 b hb))];exact(f2 b hb).1,(f2 b hb).2⟩
 have st3:tn 0 (s2.heap.push { cls:=.type "list",dict:=none,data:=.seq ([]:List Value).toArray }):=T.keep _ _ _ qG λb hb o e=>ut _ e
 have fo3:∀ b ∈ fp,b<(s2.heap.push { cls:=.type "list",dict:=none,data:=.seq ([]:List Value).toArray }).objs.size:=λb hb=>by
  rw[Heap.size_push];exact Nat.lt_succ_of_lt (fo2 b hb)
 obtain⟨W,⟨m0,w0⟩,turn⟩:=h2 _ hD;generalize s2.heap.objs.size=D at*;generalize hs3:({ s2 with heap:=s2.heap.push { cls:=.type "list",dict:=none,data:=.seq ([]:List Value).toArray } }:Shared)=s3 at*;have st3':tn 0 s3.heap:=by rw[<-hs3];exact st3
 have fo3':∀ b ∈ fp,b<s3.heap.objs.size:=by rw[<-hs3];exact fo3
 refine wpAny_newFunctionEnv S.nocell (by intro y hy;simp at hy) (λh' hns hsb=>?_) S.kind;have keep:∀ b o,s3.heap.get? b=some o->h'.get? b=some o:=λb o e=>(hsb.2 b (sn (v0 e))).trans (ut _ e)
 have I4:=qP (tk:=s3.toks+([]:List (Str×Value)).length) S I3 f3 fo3' hns keep;have st4:tn 0 h':=T.keep _ _ _ st3' λb hb o e=>keep b o e
 have stat:∀ {H':Hp},(∀ b ∈ fp,H' b=none)->∀ b ∈ fp,jo (gr X scope cl (xs++fr) s3 (upd H2 D (.lst [])) fp) (X.pn++Y) H' b:=λ{H'} hn b hb=>
  ⟨hn b hb,sn (fo3' b hb),λz=>(nw.mp (I3.jy b z)).elim (f3 b hb).2.1 (f3 b hb).2.2.1,.inl hb,λy c hy=>(f3 b hb).2.2.2.2.1 y c (S.sub y c hy),λp hp=>(f3 b hb).2.2.2.2.2 p (by simpa[gr] using hp)⟩
 have loop:codeAny (model X.prog X.w) X.A (.compLoop (.ListComp elt [⟨tgt,iter,ifs,0⟩] scope pos) 0 (.ref it) (.ref D) (compEnvC scope cl s3.heap.objs.size X.env))
   (compPost (model X.prog X.w) X.A X.xe (some (assign (.Name y py) X.env)) (λ_ s'=>SP X Y DD .next s') (.ref D) s3.heap.objs.size) { s3 with heap:=h',toks:=s3.toks+([]:List (Str×Value)).length }:=by
  refine codeAny_loop rfl (λn s'=>∃ i σ' H',Inv (gr X scope cl (xs++fr) s3 (upd H2 D (.lst [])) fp) (X.pn++Y) σ' H' s'/\tn i s'.heap/\(∀ b ∈ fp,H' b=none)/\W i n σ' H') (λn s5 hI=>?_) m0 ⟨0,_,_,I4,st4,λb hb=>(f3 b hb).1,w0⟩;show wpAny _ _ ((compTurn (.ListComp elt [⟨tgt,iter,ifs,0⟩] scope pos) 0 (.ref it) (.ref D) (compEnvC scope cl s3.heap.objs.size X.env)).onRaise (λx=>do noteFrame x (compEnvC scope cl s3.heap.objs.size X.env);theTreesLotGoes x)) _ _ s5;refine wpAny_noted ?_;refine vo (ht s3 (upd H2 D (.lst [])) fp).1 ?_;obtain⟨i,σ5,H5,I5,st5,fr5,w5⟩:=hI;rcases turn i n σ5 H5 w5 with⟨stop,q⟩|⟨go,Nn,hNn,step⟩
  .refine aD (T.done (gr X scope cl (xs++fr) s3 (upd H2 D (.lst [])) fp) rfl rfl rfl hc i _ s5 σ5 H5 _ I5 (stat fr5) st5 stop) λr s6 ⟨hr,I6⟩=>?_
   subst hr;obtain⟨m,hn,_⟩:=I6.loc;have J:Inv X Y U H5 s6:=I3.BE (ch:=fp) I6.os I6.base I6.hok I6.bare λb hb=>⟨(f3 b hb).2.2.2.1,(f3 b hb).2.1,(f3 b hb).2.2.2.2.1,(f3 b hb).2.2.2.2.2⟩
   have fC:H5 s3.heap.objs.size=none:=I6.free;have nL:s3.heap.objs.size≠X.env.locals:=Ne.symm (sn I3.lt);have nC:∀ z c,X.env.cells.lookup z=some c->c≠s3.heap.objs.size:=λz c e=>by
    obtain⟨v,o,ho,_⟩:=I3.cell z c e;exact sn (v0 ho)
   show wpAny _ _ (assign (.Name y py) X.env (.ref D)) _ _ s6;refine wpAny_assign_Name (oH J hN hni (.inl hy) (v:=.ref D) rfl (λs7 J7 hsb=>?_) (.inr hy));obtain⟨a,sb,ha⟩:=hsb;have hne:s3.heap.objs.size≠a:=by
    rcases ha with ha|ha
    .rw[ha];exact nL
    .exact Ne.symm (nC _ _ ha)
   refine⟨m,hn.sameBut sb hne,λh'' hs''=>⟨_,H5,?_,q⟩⟩;exact J7.turned (h':=h'') (t':=s7.toks) (it:=s3.heap.objs.size) (λb o hb e=>(hs''.2 b hb).trans e) fC nL (.inr I3.sz) nC λp hp=>sn (v0 (I3.pin p hp).1)
  .have fin:∀ {σ8:St}{H10:Hp}{s10:Shared},Inv (gr X scope cl (xs++fr) s3 (upd H2 D (.lst [])) fp) (X.pn++Y) σ8 H10 s10/\tn (i+1) s10.heap/\(∀ b ∈ fp,H10 b=none)->Nn σ8 H10->∃ m',m'<n/\∃ i σ' H',Inv (gr X scope cl (xs++fr) s3 (upd H2 D (.lst [])) fp) (X.pn++Y) σ' H' s10/\tn i s10.heap/\(∀ b ∈ fp,H' b=none)/\W i m' σ' H':=λ⟨I,t,f⟩ nn=>by
    obtain⟨m',hm,w10⟩:=hNn _ _ nn;exact⟨m',hm,i+1,_,_,I,t,f,w10⟩
   refine aD (T.item (gr X scope cl (xs++fr) s3 (upd H2 D (.lst [])) fp) rfl rfl rfl hc i _ s5 σ5 H5 _ I5 (stat fr5) st5 go) λr s6 ⟨u,hr,h6⟩=>?_
   subst hr;refine aD h6 λ_ s7 ⟨xv,H7,I7,r7,y7,st7,fr7⟩=>?_
   have I7':=I7.pinned (stat fr7) (T.obj _ _ st7);refine EB (hg s3 _ fp _ s7 σ5 H7 xv u _ I7' r7 (step xv _ y7)) λ_ s8 ⟨σ8,H8,I8,q8⟩=>?_
   refine EB ((ht s3 _ fp).2 _ s8 σ8 H8 _ I8 q8) λok s9 ⟨H9,I9,q9⟩=>?_
   have back:∀ {H10:Hp}{s10:Shared},Inv (gr X scope cl (xs++fr) s3 (upd H2 D (.lst [])) fp) _ σ8 H10 s10->Inv (gr X scope cl (xs++fr) s3 (upd H2 D (.lst [])) fp) (X.pn++Y) σ8 H10 s10/\tn (i+1) s10.heap/\(∀ b ∈ fp,H10 b=none):=λ{H10 s10} I10=>⟨I10.fP,T.keep _ _ _ st7 λb hb o e=>(I10.pin (b,o) (im _ (im _ (cg hb e)))).1,λb hb=>by
    obtain⟨o,e,d⟩:=T.obj _ _ st7 b hb;exact(I10.pin (b,o) (im _ (im _ (cg hb e)))).2.1⟩
   refine⟨λek=>?_,λek=>am ⟨rfl,fin (back I9) (q9.2 ek)⟩⟩;refine EB (he s3 _ fp _ s9 _ _ _ I9 (q9.1 ek)) λuv s10 ⟨vv,H10,I10,r10,zs,hz,hzl,n10⟩=>?_
   refine EB (jg (X:=gr X scope cl (xs++fr) s3 (upd H2 D (.lst [])) fp) _ s10 _ H10 (.ref D) [vv] (.ref D) [uv] (λ_ H'=>H'=upd H10 D (.lst (zs++[vv]))) I10 rfl (.cons r10 .nil) ⟨D,zs,vv,rfl,rfl,hz,hzl,rfl⟩) λ_ s11 ⟨_,H11,I11,_,e11⟩=>?_
   subst e11;exact am ⟨rfl,fin (back I11) n10⟩
 exact codeAny_compStart_list loop (T.self _ 0 _ _ _ st4 loop)
def yB {elt iter:Expr}{x y:Str}{px py pos spos:Pos}{wi:TI}{te:TE}{ni:Nat}(hc:X.calm=true)(S:bK X scope cl [x] fr sel)(hi:PI X (.Name x px) iter wi)
  (he:∀ (s:Shared) (H:Hp) (fp:List Addr),PE (gr X scope cl (x::fr) s H fp) elt te) (hs:∀ x,foldedSetIterable iter X.env x=pure x) (hN:X.N.Nodup) (hni:X.N[ni]? =some y) (hy:X.env.scope.names.lookup y=some .local)
  (hsw:swapsWith (.ListComp elt [⟨.Name x px,iter,[],0⟩] scope pos) (some (.Name y py)) spos.line X.env=pure true):PS X (.Assign [.Name y py] (.ListComp elt [⟨.Name x px,iter,[],0⟩] scope pos) spos) (λD U H=>M7 wi te sel U H λv H1=>D.nx (U.set ni (some v)) H1):=λY s U H D I h=>
 gQ hc S hi.up (λs H fp=>vc S) (λ_ _ _=>kZ) he hs hN hni hy hsw Y s U H D I ⟨_,h,λ_ _ q=>q.g⟩
section
variable {prog:Program}{w:World}{A:Around}{E:NV}
def n6 {it t:Addr}{items:Array Value}(hne:t≠it):∀ (n i:Nat) (s:Shared) (Q:List Value->Shared->Prop),s.heap.IsListIter it t i->s.heap.IsList t items->i+n<=items.size->
  (∀ h',h'.IsListIter it t (i+n)->Heap.SameBut it s.heap h'->Q ((items.toList.drop i).take n) { s with heap:=h' })->wpAny (model prog w) A (draw (.ref it) n) Q E s
 |0,i,s,Q,hit,_,_,hQ=>by
  show wpAny _ _ (pure []) Q E s;exact am (by simpa using hQ s.heap hit (Heap.SameBut.refl ..))
 |n+1,i,s,Q,hit,ht,hle,hQ=>by
  have hlt:i<items.size:=by omega
  show wpAny _ _ (pyNext (.ref it) >>= _) Q E s;refine ad (wpAny_pyNext_list_item hit ht (x:=items[i]) (by simp[hlt]) λh₁ hit₁ hs₁=>?_);refine ad (bd (n6 hne n (i+1) _ _ hit₁ (ht.extBut hs₁.extBut hne) nofun λh₂ hit₂ hs₂=>am ?_));have hd:items.toList.drop i=items[i]::items.toList.drop (i+1):=by simp[drop_eq_getElem_cons,hlt]
  have:=hQ h₂ (by rw[show i+(n+1)=i+1+n by omega];exact hit₂) (hs₁.trans hs₂);rw[hd,List.take_succ_cons]at this;exact this
def jd {t:Addr}{items:Array Value}{Q:List Value->Shared->Prop}(hh:A.handled=none)(ht:s.heap.IsList t items)(hty:s.TypeIs (.ref t) "list")
  (hQ:∀ h',Heap.ExtBut s.heap.objs.size s.heap h'->Q items.toList { s with heap:=h' }):wpAny (model prog w) A (unpackItems (.ref t) items.size none) Q E s:=by
 have hlt:t≠s.heap.objs.size:=by obtain⟨o,ho,_⟩:=id ht;exact sn (v0 ho)
 unfold unpackItems;refine ad ?_
 .unfold notIterableAtAll;refine ad (wpAny_specialOf hty PySem.F.slot_list_iter.lookup ?_);refine am ?_;simp only[Bool.false_eq_true,if_false];refine ad (bd (wpAny_pyIter_list ht ?_));refine ad (bd (n6 hlt items.size 0 _ _ ⟨_,v4 _ rfl,rfl,rfl⟩ (ht.push _) nofun λh₁ hit₁ hs₁=>?_));have hall:List.take items.size (List.drop 0 items.toList)=items.toList:=by
   rw[drop_zero];exact List.take_of_length_le (by simp)
  rw[hall];rw[if_neg (by simp)];have ht₁:h₁.IsList t items:=(ht.push _).extBut hs₁.extBut hlt;refine ad (bd (wpAny_pyNext_list_end hh hit₁ ht₁ (by simp) λh₂ he₂=>?_));simp only[Option.isSome_none,Bool.false_eq_true,if_false];refine am (hQ h₂ λb o hb e=>he₂ b o hb (hs₁.extBut b o hb (ut _ e)))
end
def GL {es:List Expr}{k:Nat}{pos:Pos}{t:Ei}{n:Nat}(hc:X.calm=true)(h:FJ X es t)
  (hn:(assignEach es X.env).length=n) (hst:(assignEach es X.env).findIdx? (·.1)=none){Y:NW}{U:St}{H:Hp}{a:Addr}{u:Value}{xs:List V}{Q:St->Hp->Prop}(I:Inv X Y U H s) (r:RelV (.ref a) u)
  (hq:bb X.K H a xs) (hl:xs.length=n) (hw:t xs U H Q):wpAny (model X.prog X.w) X.A (assign (.Tuple es k pos) X.env u) (λ_ s'=>∃ σ' H',Inv X Y σ' H' s'/\Q σ' H') X.xe s:=by
 cases r;obtain⟨its,rv,p,hz⟩:=I.list hq;rw[assign_Tuple];refine ad (wpAny_standAt ?_);unfold unpack;have e1:(assignEach es X.env).length=its.toArray.size:=by
  rw[hn,<-hl];simp[rv.length]
 rw[e1,hst];refine ad (bd (jd (I.ok.hd hc) p.isList p.isList.typeIs λh' hx=>?_));have I1:Inv X Y U H { s with heap:=h' }:=I.kept (t':=s.toks) λb o e=>hx b o (sn (v0 e)) e
 exact h Y _ U H xs _ Q I1 (by simpa using rv) hw
end
end L2
namespace L3
open PySem PySem.Spec L2
set_option maxHeartbeats 2000000
abbrev EO:Expr->Bool
 | .Tuple ..=>false
 |_=>true
abbrev yH (S:Sn):List Nat->List Expr->Bool
 | [],[]=>true
 |i::is,.Name x _::r=>S.loc i x&&yH S is r
 |_,_=>false
abbrev Mh (S:Sn):Lc->Expr->Bool
 | .nm i,e=>match e with| .Name x _=>S.loc i x|_=>false
 | .tp is,e=>match e with| .Tuple ts _ _=>yH S is ts|_=>false
 | .nt i is,e=>match e with| .Tuple y1 _ _=>(match y1 with| [y2,y3]=>(match y2 with| .Name x _=>(match y3 with| .Tuple ts _ _=>S.loc i x&&yH S is ts|_=>false)|_=>false)|_=>false)|_=>false
abbrev Sn.um (S:Sn)(i:Nat)(x:Str):Bool:=decide (S.N[i]? =some x)&&decide (S.sc.names.lookup x=some .local)
abbrev JF (S:Sn)(is:List Nat)(ts:List Expr):Bool:=match is with
 | [i,j]=>(match ts with| [a,b]=>(match a with| .Name x _=>(match b with| .Name y _=>S.um i x&&(S.um j y&&decide (i≠j))|_=>false)|_=>false)|_=>false)
 | [i,j,l]=>(match ts with| [a,b,c]=>(match a with| .Name x _=>(match b with| .Name y _=>(match c with| .Name z _=>S.um i x&&(S.um j y&&(S.um l z&&(decide (i≠j)&&(decide (i≠l)&&decide (j≠l)))))|_=>false)|_=>false)|_=>false)|_=>false)
 |_=>false
mutual
noncomputable def mS (S:Sn):Sx->Stmt->Bool
 | .asg i e,s=>match s with| .Assign y1 e' _=>(match y1 with| [y2]=>(match y2 with| .Name x _=>S.loc i x&&mE S e e'|_=>false)|_=>false)|_=>false
 | .asgT is e,s=>match s with| .Assign y1 e' _=>(match y1 with| [y2]=>(match y2 with| .Tuple ts _ _=>yH S is ts&&mE S e e'&&EO e'|_=>false)|_=>false)|_=>false
 | .par is es,s=>match s with| .Assign y1 y2 _=>(match y1 with| [y3]=>(match y3 with| .Tuple ts kt pt=>(match y2 with| .Tuple vs k2 p2=>JF S is ts&&jC S es vs&&HV S.sc (.Tuple ts kt pt) (.Tuple vs k2 p2) (is.filterMap λi=>S.N[i]?)|_=>false)|_=>false)|_=>false)|_=>false
 | .sub o i v,s=>match s with| .Assign y1 v' _=>(match y1 with| [y2]=>(match y2 with| .Subscript o' i' _=>mE S o o'&&mE S i i'&&mE S v v'&&fW i'|_=>false)|_=>false)|_=>false
 | .fld o f v,s=>match s with| .Assign y1 v' _=>(match y1 with| [y2]=>(match y2 with| .Attribute o' f' _=>mE S o o'&&decide (f=f')&&mE S v v'|_=>false)|_=>false)|_=>false
 | .aug i op e,_=>false
 | .augS o i op e,s=>match s with| .AugAssign y1 op' e' _=>(match y1 with| .Subscript o' i' _=>mE S o o'&&mE S i i'&&decide (op=op')&&mE S e e'&&fW i'|_=>false)|_=>false
 | .ret e,s=>match s with| .Return y1 _=>(match y1 with|some e'=>mE S e e'|_=>false)|_=>false
 | .retN,_=>false
 | .pass,_=>false
 | .brk,_=>false
 | .cont,_=>false
 | .expr e,s=>match s with| .Expr e' _=>mE S e e'&&ud e'|_=>false
 | .ife c a b,s=>match s with| .If c' a' b' _=>mT S c c'&&mB S a a'&&mB S b b'|_=>false
 | .whl c b,_=>false
 | .for t it b,s=>match s with| .For t' it' b' y1 _=>(match y1 with| []=>Mh S t t'&&mI S it t' it'&&mB S b b'&&cJ it'|_=>false)|_=>false
 | .rais e,s=>match s with| .Raise y1 y2 _=>(match y1 with|some e'=>(match y2 with|none=>mE S e e'|_=>false)|_=>false)|_=>false
 | .tryx b hs,s=>match s with| .Try b' y1 y2 y3 _=>(match y1 with|h0::hs'=>(match y2 with| []=>(match y3 with| []=>mB S b b'&&mH S hs (h0::hs')|_=>false)|_=>false)|_=>false)|_=>false
noncomputable def mB (S:Sn):lV->List Stmt->Bool
 | .nil,l=>l.isEmpty
 | .cons s r,l=>match l with|s'::r'=>mS S s s'&&mB S r r'| []=>false
noncomputable def mH (S:Sn):B1->List ExceptHandler->Bool
 | .nil,l=>l.isEmpty
 | .cons c i b hs,l=>match l with| .ExceptHandler (some (.Name x _)) (some n) (b0::bs) _::r=>S.oB x&&decide (S.T.gcl.lookup x=some c)&&decide (S.N[i]? =some n)&&decide (S.sc.names.lookup n=some .local)&&mB S b (b0::bs)&&mH S hs r|_=>false
end
structure Gs (X:Cx) (G:Gx) (S:Sn) (k:Nat) (E:St->XK):Prop extends Gd X G S k E where
 xok:G.cm=true->IC X E
 own:PassesOwn (model X.prog X.w) X.A X.env X.xe
 stk:X.stack=X.env::X.outer
 fr:X.env.frame=some X.env.locals
 fn:∀ x,X.fn x=true
variable {e elt:Expr}{ts:List Expr}{p:Pos}{gs:List Comprehension}{scope:Scope}
section
variable {X:Cx}{G:Gx}{S:Sn}{k:Nat}{E:St->XK}
def Gs.gX (g:Gs X G S k E){Y:NW}{xe:NV}{E':St->XK}(hx:IC (X.gX Y xe) E')(ho:PassesOwn (model X.prog X.w) X.A X.env xe):Gs (X.gX Y xe) G S k E' where
 hK:=g.hK
 hT:=g.hT
 sc:=g.sc
 N:=g.N
 nd:=g.nd
 pass:=oa hx
 cm:=g.cm
 room:=g.room
 un:=g.un
 tab:=g.tab
 fns:=g.fns
 xok:=λ_=>hx
 own:=ho
 stk:=g.stk
 fr:=g.fr
 fn:=g.fn
def Gs.bS (g:Gs X G S k E)(e:Value):Gs (X.bS e) { G with cm:=false } S k (λ_ _ _=>False) where
 hK:=g.hK
 hT:=g.hT
 sc:=g.sc
 N:=g.N
 nd:=g.nd
 pass:=λY U H s e s' I h=>by
  obtain⟨e,H',C,dx,fs,T,_,_,_,_,_,_,_,_,_,q⟩:=h;exact q.elim
 cm:=λz=>by cases z
 room:=λz=>by cases z
 un:=g.un
 tab:=g.tab
 fns:=g.fns
 xok:=λz=>by cases z
 own:=PassesOwn.never
 stk:=g.stk
 fr:=g.fr
 fn:=g.fn
def mF (env:Env):∀ {is:List Nat}{ts:List Expr},yH S is ts=true->(assignEach ts env).length=is.length/\(assignEach ts env).findIdx? (·.1)=none
 | [],[],_=>⟨rfl,rfl⟩
 | [],_::_,h=>by simp[yH]at h
 |_::_,[],h=>by simp[yH]at h
 |i::is,t::ts,h=>by
  cases t<;>simp[yH]at h
  rename_i x p;obtain⟨h1,h2⟩:=mF env h.2;have e:assignEach (.Name x p::ts) env=(false,assign (.Name x p) env)::assignEach ts env:=rfl;rw[e];refine⟨by simp[h1],?_⟩;rw[List.findIdx?_cons];simp[h2]
def pA (g:Gs X G S k E):∀ {is:List Nat}{ts:List Expr},yH S is ts=true->FJ X ts (gl is)
 | [],[],_=>λY s U H vs us Q I r h=>pE Y s U H vs us Q I r ⟨length_eq_zero_iff.mp h.1,by
   have:=h.2;have e:vs=[]:=length_eq_zero_iff.mp h.1;subst e;exact this⟩
 | [],_::_,h=>by simp[yH]at h
 |_::_,[],h=>by simp[yH]at h
 |i::is,t::ts,h=>by
  cases t<;>simp[yH]at h
  rename_i x p;obtain⟨hi,hx⟩:=g.loc h.1;have h1:PG X (.Name x p) (ie i):=iy (by rw[g.N];exact g.nd) hi hx (.inl (g.fn x));have h2:=pA g h.2;intro Y s U H vs us Q I r q;refine iJ h1 h2 rfl Y s U H vs us Q I r ?_;obtain⟨hl,q⟩:=q;cases vs with
  |nil=>simp at hl
  |cons v vs=>exact⟨v,vs,rfl,by simpa using hl,q⟩
def EW (g:Gs X G S k E)(hc:G.cm=true){t:Lc}(h:Mh S t e=true):PG X e (λv U H Q=>wG U t G.R.K v H λσ1=>Q σ1 H):=by
 cases t with
 |nm i=>
  conv at h=>lhs;whnf
  split at h
  .obtain⟨hi,hx⟩:=g.loc h;exact iy (by rw[g.N];exact g.nd) hi hx (.inl (g.fn _))
  .cases h
 |tp is=>
  conv at h=>lhs;whnf
  split at h
  .intro Y s U H v u Q I r q;obtain⟨a,xs,rfl,hq,hl,q⟩:=q;obtain⟨e1,e2⟩:=mF X.env h;rw[g.hK]at hq;rcases hq with hq|hq
   .exact pY (g.cm hc) (pA g h) e1 e2 Y s U H _ u Q I r ⟨a,xs,rfl,hq,hl,hl,q⟩
   .exact GL (g.cm hc) (pA g h) e1 e2 I r hq hl ⟨hl,q⟩
  .cases h
 |nt i is=>
  conv at h=>lhs;whnf
  split at h
  .split at h
   .split at h
    .split at h
     .intro Y s U H v u Q I r q;simp only[ol]at h;obtain⟨a,y,b,ys,rfl,hq,hb,hl,q⟩:=q;obtain⟨e1,e2⟩:=mF X.env h.2;obtain⟨hi,hx⟩:=g.loc h.1;rw[g.hK]at hq hb;refine pY (n:=2) (g.cm hc) (iJ (iy (by rw[g.N];exact g.nd) hi hx (.inl (g.fn _))) (iJ (pY (g.cm hc) (pA g h.2) e1 e2) pE rfl) rfl) rfl rfl Y s U H _ u Q I r ⟨a,_,rfl,hq,rfl,y,_,rfl,.ref b,_,rfl,b,ys,rfl,hb,hl,hl,rfl,q⟩
     .cases h
    .cases h
   .cases h
  .cases h
def fQ {kk:Nat}(n:Nat)(env:Env):swapsWithSole [.Tuple ts kk p] e n env=pure false:=by
 cases e<;>rfl
def w4 {o i:Expr}(n:Nat)(env:Env):swapsWithSole [.Subscript o i p] e n env=pure false:=by
 cases e<;>rfl
def yC {o:Expr}{f:Str}(n:Nat)(env:Env):swapsWith e (some (.Attribute o f p)) n env=pure false:=by
 cases e<;>rfl
def uh {kk:Nat}(env:Env)(h:EO e=true):swappedStores [.Tuple ts kk p] e env=pure none:=by
 cases e<;>first|rfl|cases h
def uo {o i:Expr}(env:Env):swappedStores [.Subscript o i p] e env=pure none:=by
 cases e<;>rfl
def uq {o i:Expr}{pos:Pos}{env:Env}(h:fW i=true):∀ v,assign (.Subscript o i pos) env v=(do
   let ov <-holding [v] (eval o env)
   let iv <-holding [v,ov] (eval i env)
   standAt pos
   holding [v,ov,iv] (setItem ov iv v)
   release [v,ov,iv] []):=by
 intro v;cases i<;>first|rfl|cases h
def Dm {i:Expr}(h:fW i=true):∀ ov iv new,augStore i ov iv new=(do holding [new,ov,iv] (setItem ov iv new);release [new,ov,iv] [];pure .next):=by
 intro ov iv new;cases i<;>first|rfl|cases h
def Kz (op:Operator):Li X op (Mb op):=by
 intro Y s U H x y v u Q I r1 r2 h;unfold Mb at h
 split at h
 .exact Hw Y s U H _ _ v u Q I r1 r2 ⟨_,_,rfl,rfl,h⟩
 .exact Gk Y s U H _ _ v u Q I r1 r2 ⟨_,_,rfl,rfl,h⟩
 .exact h.elim
def Ge (g:Gd X G S k E):G5 X (Br G.R.K):=by
 intro Y s U H x y v u Q I r1 r2 h;unfold Br at h;rw[g.hK]at h
 split at h
 .obtain⟨xs,w,h1,h2,h3,q⟩:=h;exact AM Y s U H _ _ v u Q I r1 r2 ⟨_,xs,_,w,rfl,rfl,h1,h2,h3,q⟩
 .exact h.elim
def uY {py:Pos}{y:Str}{n:Nat}{env:Env}(hk:env.scope.kind=.function):∃ b,swapsWith (.ListComp elt gs scope p) (some (.Name y py)) n env=pure b/\(b=true->env.scope.names.lookup y=some .local):=by
 refine⟨_,rfl,λh=>?_⟩;simp only[ol]at h;have:=h.1.1.2;exact beq_iff_eq.mp this
end
set_option maxHeartbeats 2000000
variable {S:Sn}{α:Type}
section
variable {k:Nat}
def IP {x:Ex}(h:mE S x (.ListComp elt gs scope p)=true):(∃ e' sel it y py iter,x=.lc e' sel it/\gs=[⟨.Name y py,iter,[],0⟩]/\
  g6 S scope [y] sel=true/\mI S it (.Name y py) iter=true/\mE { S with sc:=eI S.sc scope,N:=y::sel.filterMap λi=>S.N[i]? } e' elt=true/\cJ iter=true)\/
  (∃ e' c sel it y py iter c',x=.lci e' c sel it/\gs=[⟨.Name y py,iter,[c'],0⟩]/\
  g6 S scope [y] sel=true/\mI S it (.Name y py) iter=true/\mE { S with sc:=eI S.sc scope,N:=y::sel.filterMap λi=>S.N[i]? } e' elt=true/\mT { S with sc:=eI S.sc scope,N:=y::sel.filterMap λi=>S.N[i]? } c c'=true/\cJ iter=true)\/
  ∃ e' n sel it ts kt pt iter,x=.lct e' n sel it/\gs=[⟨.Tuple ts kt pt,iter,[],0⟩]/\
  g6 S scope (Cq ts) sel=true/\yF { S with sc:=eI S.sc scope,N:=Cq ts++sel.filterMap λi=>S.N[i]? } (List.range n) ts=true/\(Cq ts).length=n/\mI S it (.Tuple ts kt pt) iter=true/\mE { S with sc:=eI S.sc scope,N:=Cq ts++sel.filterMap λi=>S.N[i]? } e' elt=true/\cJ iter=true:=by
 cases x<;>(try (cases(show false=true from h);done))
 all_goals (conv at h=>lhs;whnf)
 all_goals (iterate 5 (split at h<;>first|(cases h;done)|skip))
 all_goals (simp only[ol,decide_eq_true_eq]at h)
 all_goals first
  |exact .inl ⟨_,_,_,_,_,_,rfl,rfl,h.1.1.1,h.1.1.2,h.1.2,h.2⟩
  |exact .inr (.inl ⟨_,_,_,_,_,_,_,_,rfl,rfl,h.1.1.1.1,h.1.1.1.2,h.1.1.2,h.1.2,h.2⟩)
  |exact .inr (.inr ⟨_,_,_,_,_,_,_,_,rfl,rfl,h.1.1.1.1.1,h.1.1.1.1.2,h.1.1.1.2,h.1.1.2,h.1.2,h.2⟩)
def uf (e:Expr){x:Ex}(h:mE S x e=true):ud e=true\/∃ elt gs scope p,e=.ListComp elt gs scope p:=by
 cases e<;>first|exact .inl rfl|exact .inr ⟨_,_,_,_,rfl⟩|(cases x<;>cases(show false=true from h))
def KJ {G:Gx}{X:Cx}{E:St->XK}(g:Gs X G S k E){i:Nat}{x:Str}{e:Ex}{e':Expr}{px:Pos}(hx:S.loc i x=true)(h:mE S e e'=true):PS X (.Assign [.Name x px] e' p) (λD U H=>wS (.asg i e) G D E U H):=by
 obtain⟨hi,hl⟩:=g.loc hx;have hN:X.N.Nodup:=by rw[g.N];exact g.nd
 rcases uf e' h with hn|⟨elt,gs,scope,pp,rfl⟩
 .exact yM hN hi hl (sE e g.toGd h) (iD hn _ _ _) (.inl (g.fn x))
 .intro Y s U H D I q;obtain⟨b,hb,hb2⟩:=uY (elt:=elt) (gs:=gs) (scope:=scope) (p:=pp) (py:=px) (y:=x) (n:=p.line) (env:=X.env) I.ok.kind;cases b with
  |false=>exact yM hN hi hl (sE e g.toGd h) hb (.inl (g.fn x)) Y s U H D I q
  |true=>
   rcases IP h with⟨e2,sel,it,y,py,iter,rfl,rfl,h1,h2,h3,h4⟩|⟨e2,c,sel,it,y,py,iter,c',rfl,rfl,h1,h2,h3,h5,h4⟩|⟨e2,n,sel,it,ts,kt,pt,iter,rfl,rfl,h1,h5,h6,h2,h3,h4⟩
   .obtain⟨hc,q⟩:=(show G.cm=true/\wI G it U H (λJ H1=>yD (λσ' H' Q'=>wE G e2 σ' H' Q' (λ_ _=>False)) J (none::iH U sel) H1 (λx H1=>D.nx (U.set i (some x)) H1)) (E U) from q);rw[BO]at q;obtain⟨cl,C⟩:=cR g.toGd I.ok h1;exact yB (g.cm hc) C (sI it g.toGd h2) (λs H fp=>sE e2 (g.toGd.comp C s H fp) h3) (b9 h4 _) hN hi (hb2 rfl) hb Y s U H D I q
   .cases(show false=true from h)
   .obtain⟨hc,q⟩:=(show G.cm=true/\wI G it U H (λJ H1=>LCt G.R.K n (λσ' H' Q'=>wE G e2 σ' H' Q' (λ_ _=>False)) J (tz n none++iH U sel) H1 (λx H1=>D.nx (U.set i (some x)) H1)) (E U) from q);rw[yT,<-vL h6]at q;obtain⟨cl,C⟩:=cR g.toGd I.ok h1;exact gQ (g.cm hc) C (sI it g.toGd h2) (λs H fp=>vz (g.toGd.comp C s H fp) hc h5) (λs H fp=>kZ) (λs H fp=>sE e2 (g.toGd.comp C s H fp) h3) (b9 h4 _) hN hi (hb2 rfl) hb Y s U H D I q
def Cf {xs:List α}{i j:Nat}(h:xs.length=[i,j].length):∃ a b,xs=[a,b]:=by
 match xs,h with
 | [a,b],_=>exact⟨a,b,rfl⟩
def x8 {xs:List α}{i j l:Nat}(h:xs.length=[i,j,l].length):∃ a b c,xs=[a,b,c]:=by
 match xs,h with
 | [a,b,c],_=>exact⟨a,b,c,rfl⟩
mutual
theorem sS:∀ (x:Sx){G:Gx}{X:Cx}{S:Sn}{E:St->XK},Gs X G S k E->∀ {st:Stmt},mS S x st=true->PS X st (λD U H=>wS x G D E U H)
 | .asg i e,G,X,S,E,g,st,h=>by
  sleep 3
  simp only[ol]at h;exact KJ g h.1 h.2
 | .asgT is e,G,X,S,E,g,st,h=>by
  sleep 3
  simp only[ol]at h;obtain⟨⟨h1,h2⟩,h3⟩:=h;intro Y s U H D I q;obtain⟨hc,q⟩:=(show G.cm=true/\wE G e U H (λx H1=>wG U (.tp is) G.R.K x H1 λσ1=>D.nx σ1 H1) (E U) from q);exact AU (sE e g.toGd h2) (EW g hc (t:=.tp is) (by simp only[Mh];exact h1)) (fQ _ _) (uh _ h3) rfl Y s U H D I q
 | .par is es,G,X,S,E,g,st,h=>by
  sleep 4
  rename_i pos _ _ ts kt pt _ vs k2 p2;simp only[ol]at h;obtain⟨⟨h1,h2⟩,h3⟩:=h;intro Y s U H D I q;obtain⟨hc,q⟩:=(show G.cm=true/\wEs G es U H (λxs H1=>xs.length=is.length/\D.nx (xC U is xs) H1) (E U) from q);have hN:X.N.Nodup:=by rw[g.N];exact g.nd
  rw[<-g.sc]at h3;unfold JF at h1
  split at h1
  .iterate 3 (split at h1;rotate_left;cases h1)
   rename_i i j _ _ x px _ y py;simp only[Sn.um,ol,decide_eq_true_eq]at h1;obtain⟨⟨a1,a2⟩,⟨b1,b2⟩,c1⟩:=h1;rw[filterMap_cons,a1,filterMap_cons,b1,List.filterMap_nil]at h3;obtain⟨v1,v2,rfl⟩:=C2 h3;rw[<-g.N]at a1 b1;rw[<-g.sc]at a2 b2;exact CJ (g.cm hc) hN a1 b1 c1 a2 b2 (PA.bU (tN es g.toGd h2)) (BQ h3) (fQ _ _) Y s U H D I ⟨_,q,λxs H1 z=>by
    obtain⟨z1,z2⟩:=z;obtain⟨u1,u2,rfl⟩:=Cf z1;exact⟨u1,u2,rfl,z2⟩⟩
  .iterate 4 (split at h1;rotate_left;cases h1)
   rename_i i j l _ _ x px _ y py _ z pz;simp only[Sn.um,ol,decide_eq_true_eq]at h1;obtain⟨⟨a1,a2⟩,⟨b1,b2⟩,⟨d1,d2⟩,c1,c2,c3⟩:=h1;rw[filterMap_cons,a1,filterMap_cons,b1,filterMap_cons,d1,List.filterMap_nil]at h3;obtain⟨v1,v2,v3,rfl⟩:=xE h3;rw[<-g.N]at a1 b1 d1;rw[<-g.sc]at a2 b2 d2;exact Em (g.cm hc) hN a1 b1 d1 c1 c2 c3 a2 b2 d2 (PA.bU (tN es g.toGd h2)) (BQ h3) (fQ _ _) Y s U H D I ⟨_,q,λxs H1 z=>by
    obtain⟨z1,z2⟩:=z;obtain⟨u1,u2,u3,rfl⟩:=x8 z1;exact⟨u1,u2,u3,rfl,z2⟩⟩
  .cases h1
 | .sub o i v,G,X,S,E,g,st,h=>by
  sleep 3
  simp only[ol]at h;obtain⟨⟨⟨h1,h2⟩,h3⟩,h4⟩:=h;exact AU (sE v g.toGd h3) (F6 (sE o g.toGd h1) (sE i g.toGd h2) (wL g.un) (uq h4)) (w4 _ _) (uo _) rfl
 | .fld o f v,G,X,S,E,g,st,h=>by
  sleep 3
  simp only[ol,decide_eq_true_eq]at h;obtain⟨⟨h1,rfl⟩,h3⟩:=h;intro Y s U H D I q;have q':wE G v U H (λy H1=>wE G o U H1 (λx H2=>CO G f x y H2 (λH3=>D.nx U H3)) (E U)) (E U):=q;refine plainObj_wpAny_Assign_Attribute (aD (sE v g.toGd h3 Y s U H _ I q') λu s1 ⟨y,H1,I1,ry,q⟩=>aD (sE o g.toGd h1 Y s1 U H1 _ I1 q) λov s2 ⟨x,H2,I2,rx,q2⟩=>?_) (yC _ _);unfold CO at q2;obtain⟨a,i,rfl,hna,q2⟩:=q2;obtain rfl:ov=Value.ref a:=rx;have n:=g.tab.na i f hna;rcases q2 with⟨dx,fs,ho,ea,l,q2⟩|⟨d,fs,fr,ho,ea,l,q2⟩|⟨fr,ho,ea,q2⟩
  .exact uL I2 ea (g.tab.oc i ho).1 n l ry λs3 I3=>⟨U,_,I3,q2⟩
  .exact uX I2 ea (g.tab.xc i ho).1 n l ry λs3 I3=>⟨U,_,I3,q2⟩
  .exact uP I2 ea (g.tab.xc i ho).1 n ry λd s3 hd I3=>⟨U,_,I3,q2 d hd⟩
 | .aug i op e,G,X,S,E,g,st,h=>by cases(show false=true from h)
 | .augS o i op e,G,X,S,E,g,st,h=>by
  sleep 2
  simp only[ol,decide_eq_true_eq]at h;obtain⟨⟨⟨⟨h1,h2⟩,rfl⟩,h3⟩,h4⟩:=h;exact D3 (sE o g.toGd h1) (sE i g.toGd h2) (Ge g.toGd) (sE e g.toGd h3) (Kz op) (wL g.un) (Dm h4)
 | .ret e,G,X,S,E,g,st,h=>by
  sleep 2
  exact FE (sE e g.toGd h)
 | .retN,G,X,S,E,g,st,h=>by cases(show false=true from h)
 | .pass,G,X,S,E,g,st,h=>by cases(show false=true from h)
 | .brk,G,X,S,E,g,st,h=>by cases(show false=true from h)
 | .cont,G,X,S,E,g,st,h=>by cases(show false=true from h)
 | .expr e,G,X,S,E,g,st,h=>by
  sleep 1
  simp only[ol]at h;exact C1 (sE e g.toGd h.1) (iD h.2 _ _ _)
 | .ife c a b,G,X,S,E,g,st,h=>by
  sleep 1
  simp only[ol]at h;exact PS.imp (Ju (PT.bU (sT c g.toGd h.1.1)) (sB a g h.1.2) (sB b g h.2)) λD U H q=>⟨_,q,λk H1 z=>by rwa [du]at z⟩
 | .whl c b,G,X,S,E,g,st,h=>by cases(show false=true from h)
 | .for t it b,G,X,S,E,g,st,h=>by
  sleep 2
  simp only[ol]at h;obtain⟨⟨⟨h1,h2⟩,h3⟩,h4⟩:=h;intro Y s U H D I q
  conv at q=>whnf
  obtain⟨hc,q⟩:=q;unfold m8 at q;exact GU g.own (g.cm hc) (sI it g.toGd h2) (EW g hc h1) (sB b g h3) (b9 h4 _) Y s U H D I q
 | .rais e,G,X,S,E,g,st,h=>by
  sleep 3
  intro Y s U H D I q
  conv at q=>whnf
  obtain⟨hc,q⟩:=q;refine zC (g.xok hc) (g.cm hc) (PE.bU (sE e g.toGd h)) Y s U H D I ⟨_,q,λv H1 z=>?_⟩;obtain⟨a,i,dx,fs,ev,ea,hi,q⟩:=z;exact⟨a,_,dx,fs,ev,ea,(g.tab.xc i hi).1,q⟩
 | .tryx b hs,G,X,S,E,g,st,h=>by
  sleep 4
  simp only[ol]at h;intro Y s U H D I q;obtain⟨hc,q⟩:=(show G.cm=true/\wB b G D (λσ' e H'=>wH hs G D σ' e H') U H from q);refine GF (E':=λσ' e H'=>wH hs G D σ' e H') I g.stk g.fr (λxe hx ho=>?_) λσ' H' s' e C dx fs T J he hT hH hp st q'=>?_
  .exact sB b (g.gX hx ho) h.1 [] s U H D (I.gX xe) q
  .exact sH hs g h.2 J he hT hH hp st q'
theorem sB:∀ (x:lV){G:Gx}{X:Cx}{S:Sn}{E:St->XK},Gs X G S k E->∀ {st:List Stmt},mB S x st=true->Fe X st (λD U H=>wB x G D E U H)
 | .nil,G,X,S,E,g,[],h=>C8
 | .nil,G,X,S,E,g,_::_,h=>by cases(show false=true from h)
 | .cons x xs,G,X,S,E,g,[],h=>by cases(show false=true from h)
 | .cons x xs,G,X,S,E,g,st::sts,h=>by
  have h:(mS S x st&&mB S xs sts)=true:=h;simp only[ol]at h;exact Bm (sS x g h.1) (sB xs g h.2)
theorem sH:∀ (x:B1){G:Gx}{X:Cx}{S:Sn}{E:St->XK},Gs X G S k E->∀ {hs:List ExceptHandler},mH S x hs=true->∀ {Y:NW}{U:St}{H:Hp}{s:Shared}{e C:Addr}{dx:Option Addr}{fs:List (Str×V)}{T:Addr}{D:Ends},
  L2.Inv X Y U H s->H e=some (.exc C dx fs false)->X.s₀.heap.objs.size<=T->H T=none->(∀ p ∈ X.pn++Y,p.1≠T)->BZ s.heap e T .none->wH x G D U e H->wpAny (model X.prog X.w) X.A (handleBy (.ref e) X.env hs) (SP X Y D) X.xe s
 | .nil,G,X,S,E,g,hs,h,Y,U,H,s,e,C,dx,fs,T,D,I,he,hT,hH,hp,st,q=>by
  simp only[wH]at q
 | .cons c i b hs,G,X,S,E,g,l,h,Y,U,H,s,e,C,dx,fs,T,D,I,he,hT,hH,hp,st,q=>by
  conv at h=>lhs;whnf
  split at h
  .simp only[ol,decide_eq_true_eq]at h;obtain⟨⟨⟨⟨⟨h1,h2⟩,h3⟩,h4⟩,h5⟩,h6⟩:=h;obtain⟨hg,hdb⟩:=g.glob h1;have hm:=g.tab.gcl _ _ (g.hT▸h2);obtain⟨j,dx',fs',kk,he',hxc,hsub,q⟩:=(show ∃ j dx fs k,H e=some (.exc (G.R.cad j) dx fs false)/\G.T.xc.contains j=true/\G.T.sub.lookup (j,c)=some k/\_ from q);have ee:=he.symm.trans he'
   injection ee with ee
   injection ee with e1 e2 e3 e4
   subst e1;obtain⟨_,hs2⟩:=g.tab.sub j c kk hsub;obtain⟨hs3,hs4⟩:=hs2 hxc;refine sU (i:=i) I he hT hH hp st (g.tab.xc j hxc).1 hs4 hs3 hg hm (by rw[g.N];exact g.nd) (by rw[g.N];exact h3) (by rw[g.sc];exact h4) hdb (λhk s2 J=>?_) λhk=>?_
   .rw[hk]at q;unfold jb at q;exact sB b (g.bS (.ref e)) h5 Y s2 _ H _ J q
   .rw[hk]at q;unfold jb at q;exact sH hs g h6 I he hT hH hp st q
  .cases h
end
end
abbrev dv (T:Tab)(R:Rt):Nat->Nat->Sp
 |0,_=>λ_ _ _ _=>False
 |k+1,f=>λvs H Q E=>match T.fns[f]? with
  |some d=>vs.length=d.ps.length/\wB d.body ⟨T,R,dv T R k,true⟩ { nx:=λ_ H'=>Q .non H',rt:=Q } (λ_=>E) (start d.N vs) H
  |none=>False
structure xf (K:W.Frag) (T:Tab) (f:Addr) (d:ay):Prop where
 ex:∃ (name qual:Str) (params:Arguments) (body:List Stmt) (scope:Scope) (dV kV doc pm cdv ct oc:Value) (od an:Option Addr) (osl:Array (Option Value)),
  K.lookup f=some ⟨oc,od,.func (W.fnOf name qual params body scope dV kV doc pm an cdv ct),osl⟩/\W.codeIn K cdv qual=true/\kS d.N d.ps scope/\mB ⟨T,scope,d.N⟩ d.body body=true/\
  ∀ j,∃ ds,Binds K (W.fnOf name qual params body scope dV kV doc pm an cdv ct) d.ps ds/\Vals (d.dfl.drop j) ds
def Au {P:Program}{w:World}{K:W.Frag}{mg:NX}{base:Heap}{T:Tab}{R:Rt}(tab:En K mg T R)(hK:R.K=K)(fs:∀ f d,T.fns[f]? =some d->xf K T (R.fad f) d):
  ∀ (k f:Nat) (d:ay),T.fns[f]? =some d->Bs P w K mg base (2*k) (R.fad f) d (dv T R k f)
 |0,f,d,hd=>by
  obtain⟨name,qual,params,body,scope,dV,kV,doc,pm,cdv,ct,oc,od,an,osl,lk,hcd,S,hm,hb⟩:=(fs f d hd).ex;exact⟨⟨_,⟨λ_ _ _ _ h=>h.elim,λ_ _ _ _ _ _ _ _ _ _ _ _ _ h=>h.elim⟩,hb⟩,λ_ _ _ _ _=>⟨λ_ _ _ _ h=>h.elim,λ_ _ _ _ _ _ _ _ _ _ _ _ _ h=>h.elim⟩⟩
 |k+1,f,d,hd=>by
  obtain⟨name,qual,params,body,scope,dV,kV,doc,pm,cdv,ct,oc,od,an,osl,lk,hcd,S,hm,hb⟩:=(fs f d hd).ex;have F:=JO (P:=P) (w:=w) (mg:=mg) (base:=base) (CX:=Bg P w) (k:=2*k+1) (sp:=dv T R (k+1) f) lk hcd S (λvs H Q E h=>?_) (λA outer s H vs Q E hr h=>?_)
  .refine⟨⟨_,F,hb⟩,λfd oc' od' osl' lk'=>?_⟩;have e:=lk.symm.trans lk'
   injection e with e
   injection e with e1 e2 e3 e4
   injection e3 with e3
   subst e3;exact F
  .simp only[dv,hd]at h;exact h.1
  .simp only[dv,hd]at h;refine⟨λD U H=>wB d.body ⟨T,R,dv T R k,true⟩ D (λ_=>E) U H,?_,h.2⟩;have hx:=yv (P:=P) (w:=w) (K:=K) (mg:=mg) (base:=base) (N:=d.N) (qual:=qual) (scope:=scope) (f:=R.fad f) (cd:=cdv) (A:=A) (outer:=outer) (E:=E) (s:=s) (H:=H);refine sB (k:=2*k) d.body (G:=⟨T,R,dv T R k,true⟩) (S:=⟨T,scope,d.N⟩) { hK:=hK,hT:=rfl,sc:=rfl,N:=rfl,nd:=S.nd,pass:=oa hx,cm:=λ_=>rfl,room:=λ_=>hr,un:= ?_,tab:=tab,fns:=λf' d' hd'=>Au tab hK fs k f' d' hd',xok:=λ_=>hx,own:=PassesOwn.leaving,stk:=rfl,fr:=rfl,fn:=λ_=>rfl } hm;have:=hr.un;show(A.deeper _).units+200<cLine
   omega
abbrev jK (K:W.Frag)(n:Nat):Sp:=λvs H Q _=>∃ (a:Addr) (ns:List Int),vs=[.ref a]/\bb K H a (ns.map V.int)/\ns.length<=n/\∀ H',Q (.bl true) H'
variable {P:Program}
def zI {w:World}{H:Hp}{s:Shared}{e:Value}{s':Shared}(h:Bg P w [] H s (λ_ _=>False) e s'):False:=by
 obtain⟨e,H',C,dx,fs,T,_,_,_,_,_,_,_,_,_,q⟩:=h;exact q
variable {K:W.Frag}{fd:FuncData}{ps:List Str}
def FX (h:Binds K fd ps []):∀ j:Nat,∃ ds,Binds K fd ps ds/\Vals (([]:List V).drop j) ds:=λj=>⟨[],h,by simp;exact .nil⟩
def C6 {ds:List Value}{T:Addr}{o:Obj}{items:Array Value}{c n:Nat}(hd:fd.defaults=.ref T)(ho:K.lookup T=some o)(hs:o.data=.seq items c)(hn:n+ds.length=ps.length)
  (h:∀ us:List Value,us.length=n->∃ k:Option (Array Value)->Sem (List (Str×Value)),bindArgs fd ⟨us,[]⟩=seqItems? fd.defaults >>= k/\k (some items)=pure (ps.zip (us++ds))):Binds K fd ps ds:=λs us X hl=>by
 obtain⟨k,h1,h2⟩:=h us (by rw[cr]at hl;omega);exact W.binds_K X hd ho hs h1 h2
def nZ:∀ {vs:List V}{us:List Value}(j:Nat),Vals vs us->Vals (vs.drop j) (us.drop j)
 |_,_,0,h=>h
 |_,_,j+1,.nil=>by simp;exact .nil
 |_::_,_::_,j+1,.cons _ h=>by simpa using nZ j h
def uU {α β:Type} [BEq α] [LawfulBEq α] {x:α}{y:β}:∀ {l:List (α×β)},l.lookup x=some y->(x,y) ∈ l
 | [],h=>by simp at h
 |(a,b)::l,h=>by
  rw[lookup_cons]at h;cases e:x ==a with
  |true=>
   rw[e]at h;have:=beq_iff_eq.mp e;subst this
   injection h with h
   subst h;exact mo
  |false=>
   rw[e]at h;exact dL _ (uU h)
def lA {β:Type} [BEq α] [LawfulBEq α] {P:α->β->Prop}{l:List (α×β)}(h:∀ p ∈ l,P p.1 p.2):∀ x y,l.lookup x=some y->P x y:=λx y e=>h (x,y) (uU e)
def iL {β γ:Type} [BEq α] [LawfulBEq α] [BEq β] [LawfulBEq β] {P:α->β->γ->Prop}{l:List ((α×β)×γ)}(h:∀ p ∈ l,P p.1.1 p.1.2 p.2):∀ x y z,l.lookup (x,y)=some z->P x y z:=λx y z e=>h ((x,y),z) (uU e)
def jz  [BEq α] [LawfulBEq α] {P:α->Prop}{l:List α}(h:∀ p ∈ l,P p):∀ x,l.contains x=true->P x:=λx e=>h x (by simpa using e)
def D0 {β:Type} [BEq α] [LawfulBEq α] [BEq β] [LawfulBEq β] {P:α->β->Prop}{l:List (α×β)}(h:∀ p ∈ l,P p.1 p.2):∀ x y,l.contains (x,y)=true->P x y:=λx y e=>h (x,y) (by simpa using e)
abbrev vO (P:Nat->ay->Prop):Nat->List ay->Prop
 |_,[]=>True
 |n,d::r=>P n d/\vO P (n+1) r
def Ew {P:Nat->ay->Prop}:∀ {l:List ay}{n:Nat},vO P n l->∀ f d,l[f]? =some d->P (n+f) d
 | [],_,_,f,d,e=>by simp at e
 |a::l,n,h,0,d,e=>by
  have:a=d:=by simpa using e
  subst this;exact h.1
 |a::l,n,h,f+1,d,e=>by
  have:=Ew h.2 f d (by simpa using e)
  rwa [Nat.add_assoc,Nat.add_comm 1 f]at this
def tH {P:Nat->ay->Prop}{l:List ay}(h:vO P 0 l):∀ f d,l[f]? =some d->P f d:=λf d e=>by
 have:=Ew h f d e
 rwa [Nat.zero_add]at this
def Fn {w:World}{mg:NX}{base:Heap}{T:Tab}{R:Rt}(tab:En K mg T R)(hK:R.K=K)(fs:∀ f d,T.fns[f]? =some d->xf K T (R.fad f) d) (k fl:Nat) (d:ay) (hd:T.fns[fl]? =some d)
  {oc:Value}{od:Option Addr}{osl:Array (Option Value)}(lk:K.lookup (R.fad fl)=some ⟨oc,od,.func fd,osl⟩) (h:∀ vs H Q E,jK K 63 vs H Q E->dv T R k fl vs H Q E):dr P w K mg base (Bg P w) (2*k) (R.fad fl) fd d.ps (jK K 63):=
 ((Au tab hK fs k fl d hd).own _ _ _ _ lk).imp h
end L3
namespace L3
open PySem L2
abbrev nr:HO->HO
 | .lst _=>.lst []
 | .dK _=>.dK []
 | .dT _=>.dT []
 | .ins C dx _=>.ins C dx []
 | .exc C _ _ _=>.exc C none [] false
 |o=>o
abbrev kd:HO->Option String
 | .lst _=>some "list"
 | .tup _=>some "tuple"
 | .dK _=>some "dict"
 |_=>none
def wx (o:HO):kd (nr o)=kd o:=by cases o<;>rfl
abbrev kL (H H':Hp):Prop:=∀ a o,H a=some o->∃ o',H' a=some o'/\nr o'=nr o
def kL.tup {H H':Hp}(g:kL H H'){t:Addr}{xs:List V}(h:H t=some (.tup xs)):H' t=some (.tup xs):=by
 obtain⟨o',h1,h2⟩:=g t _ h;have key:∀ u:HO,nr u=.tup xs->u=.tup xs:=λu=>by cases u<;>intro e<;>first|exact e|cases e
 rw[key o' h2]at h1;exact h1
variable {H:Hp}{t:String}
def kL.ty {H':Hp}(g:kL H H'){v:V}(h:tyName v H=some t):tyName v H'=some t:=by
 cases v<;>try exact h
 rename_i a;have h':(match H a with|some (.lst _)=>some "list"|some (.tup _)=>some "tuple"|some (.dK _)=>some "dict"|_=>none)=some t:=h;show(match H' a with|some (.lst _)=>some "list"|some (.tup _)=>some "tuple"|some (.dK _)=>some "dict"|_=>none)=some t;cases e:H a with
 |none=>rw[e]at h';cases h'
 |some o=>
  rw[e]at h';obtain⟨o',h1,h2⟩:=g a _ e;rw[h1];have key:kd o'=kd o:=by rw[<-wx o',<-wx o,h2]
  have k1:∀ u:HO,(match some u with|some (HO.lst _)=>some "list"|some (.tup _)=>some "tuple"|some (.dK _)=>some "dict"|_=>none)=kd u:=λu=>by cases u<;>rfl
  rw[k1]at h'⊢;rw[key];exact h'
variable {a:Addr}{xs:List V}
def Kn (e:H a=some (.lst xs)):tyName (.ref a) H=some "list":=by
 show(match H a with|some (.lst _)=>some "list"|some (.tup _)=>some "tuple"|some (.dK _)=>some "dict"|_=>none)=_;rw[e]
def kL.upd {o o':HO}(h:H a=some o)(e:nr o'=nr o):kL H (L2.upd H a o'):=λb u hb=>by
 by_cases z:b=a
 .subst z;rw[h]at hb;cases hb;exact⟨o',aE,e⟩
 .exact⟨u,(aj z).trans hb,rfl⟩
def kL.new {o':HO}(h:H a=none):kL H (L2.upd H a o'):=λb u hb=>⟨u,(aj λz=>by rw[z,h]at hb;cases hb).trans hb,rfl⟩
structure az where
 p:Hp->(Addr->Prop)->Prop
 st:∀ H H' D,p H D->(∀ a,D a->H' a=H a)->kL H H'->p H' D
 up:∀ H D D',p H D->(∀ a,D a->D' a)->p H D'
abbrev pt (a:Addr)(o:HO):az:=⟨λH D=>D a/\H a=some o,λH H' D h k _=>⟨h.1,(k a h.1).trans h.2⟩,λH D D' h k=>⟨k a h.1,h.2⟩⟩
abbrev tu (t:Addr)(xs:List V):az:=⟨λH _=>H t=some (.tup xs),λH H' D h _ k=>k.tup h,λH D D' h _=>h⟩
abbrev tys (xs:List V):az:=⟨λH _=>∀ x ∈ xs,∃ t,tyName x H=some t,λH H' D h _ k x hx=>let⟨t,e⟩:=h x hx;⟨t,k.ty e⟩,λH D D' h _=>h⟩
abbrev pu (φ:Prop):az:=⟨λ_ _=>φ,λ_ _ _ h _ _=>h,λ_ _ _ h _=>h⟩
abbrev ex {α:Type}(f:α->az):az:=⟨λH D=>∃ x,(f x).p H D,λH H' D ⟨x,h⟩ k t=>⟨x,(f x).st H H' D h k t⟩,λH D D' ⟨x,h⟩ k=>⟨x,(f x).up H D D' h k⟩⟩
abbrev qG (A B:az):az:=⟨λH D=>∃ D1 D2:Addr->Prop,(∀ a,D1 a->D a)/\(∀ a,D2 a->D a)/\(∀ a,D1 a->D2 a->False)/\A.p H D1/\B.p H D2,
 λH H' D ⟨D1,D2,s1,s2,dj,h1,h2⟩ k t=>⟨D1,D2,s1,s2,dj,A.st H H' D1 h1 (λa z=>k a (s1 a z)) t,B.st H H' D2 h2 (λa z=>k a (s2 a z)) t⟩,
 λH D D' ⟨D1,D2,s1,s2,dj,h1,h2⟩ k=>⟨D1,D2,λa z=>k a (s1 a z),λa z=>k a (s2 a z),dj,h1,h2⟩⟩
abbrev bI:List az->Hp->(Addr->Prop)->Prop
 | [],_,_=>True
 |A::O,H,D=>∃ D1 D2:Addr->Prop,(∀ a,D1 a->D a)/\(∀ a,D2 a->D a)/\(∀ a,D1 a->D2 a->False)/\A.p H D1/\bI O H D2
abbrev Sep (O:List az)(H:Hp):Prop:=∃ D:Addr->Prop,(∀ a,D a->H a≠none)/\bI O H D
inductive ah (A:az):List az->List az->Prop where
 |e {O:List az}:ah A (A::O) O
 |t {B:az}{O Γ':List az}(h:ah A O Γ'):ah A (B::O) (B::Γ')
variable {g:List az}
section
variable {A B:az}{O Γ':List az}{H H':Hp}{a b p t:Addr}{o o':HO}{xs:List V}{φ:Prop}
def bI.st:∀ {O:List az}{H H':Hp}{D:Addr->Prop},bI O H D->(∀ a,D a->H' a=H a)->kL H H'->bI O H' D
 | [],_,_,_,_,_,_=>True.intro
 |A::O,H,H',D,⟨D1,D2,s1,s2,dj,h1,h2⟩,k,t=>⟨D1,D2,s1,s2,dj,A.st H H' D1 h1 (λa z=>k a (s1 a z)) t,bI.st h2 (λa z=>k a (s2 a z)) t⟩
def bI.up:∀ {O:List az}{H:Hp}{D D':Addr->Prop},bI O H D->(∀ a,D a->D' a)->bI O H D'
 | [],_,_,_,_,_=>True.intro
 |A::O,H,D,D',⟨D1,D2,s1,s2,dj,h1,h2⟩,k=>⟨D1,D2,λa z=>k a (s1 a z),λa z=>k a (s2 a z),dj,h1,h2⟩
def Sep.nil:Sep [] H:=⟨λ_=>False,λ_ z=>z.elim,True.intro⟩
def bI.pull:∀ {O Γ':List az}{D:Addr->Prop},ah A O Γ'->bI O H D->bI (A::Γ') H D:=by
 intro O Γ' D h
 induction h generalizing D with
 |e=>exact λz=>z
 |t h ih=>
  rintro⟨D1,D2,s1,s2,dj,h1,h2⟩;obtain⟨E1,E2,t1,t2,ej,k1,k2⟩:=ih h2;refine⟨E1,λa=>D1 a\/E2 a,λa z=>s2 a (t1 a z),λa z=>z.elim (s1 a) λz=>s2 a (t2 a z),λa z1 z2=>?_,k1,D1,E2,λa z=>.inl z,λa z=>.inr z,λa z1 z2=>dj a z1 (t2 a z2),h1,k2⟩;rcases z2 with z2|z2
  .exact dj a z2 (t1 a z1)
  .exact ej a z1 z2
def Sep.pull (h:ah A O Γ')(s:Sep O H):Sep (A::Γ') H:=let⟨D,k,z⟩:=s;⟨D,k,bI.pull h z⟩
def bI.push:∀ {O Γ':List az}{D:Addr->Prop},ah A O Γ'->bI (A::Γ') H D->bI O H D:=by
 intro O Γ' D h
 induction h generalizing D with
 |e=>exact λz=>z
 |t h ih=>
  rintro⟨D1,D2,s1,s2,dj,h1,E1,E2,t1,t2,ej,k1,k2⟩;refine⟨E1,λa=>D1 a\/E2 a,λa z=>s2 a (t1 a z),λa z=>z.elim (s1 a) λz=>s2 a (t2 a z),λa z1 z2=>?_,k1,ih ⟨D1,E2,λa z=>.inl z,λa z=>.inr z,λa z1 z2=>dj a z1 (t2 a z2),h1,k2⟩⟩;rcases z2 with z2|z2
  .exact dj a z2 (t1 a z1)
  .exact ej a z1 z2
def Sep.push (h:ah A O Γ')(s:Sep (A::Γ') H):Sep O H:=let⟨D,k,z⟩:=s;⟨D,k,bI.push h z⟩
def Sep.drop (s:Sep (A::O) H):Sep O H:=let⟨D,k,D1,D2,s1,s2,dj,h1,h2⟩:=s;⟨D2,λa z=>k a (s2 a z),h2⟩
def Sep.at (s:Sep (pt a o::O) H):H a=some o:=let⟨D,k,D1,D2,s1,s2,dj,h1,h2⟩:=s;h1.2
def Sep.atT (s:Sep (tu t xs::O) H):H t=some (.tup xs):=let⟨D,k,D1,D2,s1,s2,dj,h1,h2⟩:=s;h1
def Sep.pure (s:Sep (pu φ::O) H):φ:=let⟨D,k,D1,D2,s1,s2,dj,h1,h2⟩:=s;h1
def Sep.jq (h:φ)(s:Sep O H):Sep (pu φ::O) H:=let⟨D,k,h2⟩:=s;⟨D,k,λ_=>False,D,λ_ z=>z.elim,λ_ z=>z,λ_ z _=>z,h,h2⟩
def Sep.IB (h:H t=some (.tup xs))(s:Sep O H):Sep (tu t xs::O) H:=let⟨D,k,h2⟩:=s;⟨D,k,λ_=>False,D,λ_ z=>z.elim,λ_ z=>z,λ_ z _=>z,h,h2⟩
def Sep.ne (s:Sep (pt a o::pt b o'::O) H):a≠b:=by
 obtain⟨D,k,D1,D2,s1,s2,dj,h1,E1,E2,t1,t2,ej,k1,k2⟩:=s;rintro rfl;exact dj a h1.1 (t1 a k1.1)
def Sep.set (s:Sep (pt a o::O) H)(n:nr o'=nr o):Sep (pt a o'::O) (upd H a o'):=by
 obtain⟨D,k,D1,D2,s1,s2,dj,h1,h2⟩:=s;refine⟨D,λb z=>?_,D1,D2,s1,s2,dj,⟨h1.1,aE⟩,bI.st h2 (λb z=>aj λe=>dj a h1.1 (e▸z)) (kL.upd h1.2 n)⟩
 by_cases e:b=a
 .rw[e,aE];exact λz=>by cases z
 .rw[aj e];exact k b z
def Sep.new (s:Sep O H)(h:H p=none):Sep (pt p o::O) (upd H p o):=by
 obtain⟨D,k,z⟩:=s;have ne:∀ b,D b->b≠p:=λb hb e=>k b hb (e▸h)
 refine⟨λb=>b=p\/D b,λb hb=>?_,λb=>b=p,D,λb e=>.inl e,λb e=>.inr e,λb e z=>ne b z e,⟨rfl,aE⟩,bI.st z (λb hb=>aj (ne b hb)) (kL.new h)⟩;rcases hb with rfl|hb
 .rw[aE];exact λz=>by cases z
 .rw[aj (ne b hb)];exact k b hb
def Sep.mY (s:Sep O H)(h:H p=none):Sep (tu p xs::O) (upd H p (.tup xs)):=Sep.IB aE (Sep.drop (s.new (o:=.tup xs) h))
def Sep.toT (s:Sep (pt t (.tup xs)::O) H):Sep (tu t xs::O) H:=Sep.IB s.at s.drop
def Sep.star:Sep (qG A B::O) H ↔ Sep (A::B::O) H:=by
 constructor
 .rintro⟨D,k,D1,D2,s1,s2,dj,⟨E1,E2,t1,t2,ej,k1,k2⟩,h2⟩;refine⟨D,k,E1,λa=>E2 a\/D2 a,λa z=>s1 a (t1 a z),λa z=>z.elim (λz=>s1 a (t2 a z)) (s2 a),λa z1 z2=>?_,k1,E2,D2,λa z=>.inl z,λa z=>.inr z,λa z1 z2=>dj a (t2 a z1) z2,k2,h2⟩;rcases z2 with z2|z2
  .exact ej a z1 z2
  .exact dj a (t1 a z1) z2
 .rintro⟨D,k,D1,D2,s1,s2,dj,h1,E1,E2,t1,t2,ej,k1,k2⟩;refine⟨D,k,λa=>D1 a\/E1 a,E2,λa z=>z.elim (s1 a) λz=>s2 a (t1 a z),λa z=>s2 a (t2 a z),λa z1 z2=>?_,⟨D1,E1,λa z=>.inl z,λa z=>.inr z,λa z1 z2=>dj a z1 (t1 a z2),h1,k1⟩,k2⟩;rcases z1 with z1|z1
  .exact dj a z1 (t2 a z2)
  .exact ej a z1 z2
def Sep.Iy {α:Type}{f:α->az}:Sep (ex f::O) H ↔ ∃ x,Sep (f x::O) H:=by
 constructor
 .rintro⟨D,k,D1,D2,s1,s2,dj,⟨x,h1⟩,h2⟩;exact⟨x,D,k,D1,D2,s1,s2,dj,h1,h2⟩
 .rintro⟨x,D,k,D1,D2,s1,s2,dj,h1,h2⟩;exact⟨D,k,D1,D2,s1,s2,dj,⟨x,h1⟩,h2⟩
def Sep.Ja (s:Sep (tys xs::O) H):∀ x ∈ xs,∃ t,tyName x H=some t:=let⟨D,k,D1,D2,s1,s2,dj,h1,h2⟩:=s;h1
def Sep.free (h:∀ D,A.p H D) (s:Sep O H):Sep (A::O) H:=let⟨D,k,h2⟩:=s;⟨D,k,λ_=>False,D,λ_ z=>z.elim,λ_ z=>z,λ_ z _=>z,h _,h2⟩
def Sep.J6 (h:∀ x ∈ xs,∃ t,tyName x H=some t) (s:Sep O H):Sep (tys xs::O) H:=s.free λ_=>h
def Sep.get (s:Sep O H)(h:ah (pt a o) O Γ'):H a=some o:=(s.pull h).at
def Sep.kM (s:Sep O H)(h:ah (tu t xs) O Γ'):H t=some (.tup xs):=(s.pull h).atT
inductive aH (A B:az):List az->List az->Prop where
 |e {O:List az}:aH A B (A::O) (B::O)
 |t {C:az}{O Γ':List az}(h:aH A B O Γ'):aH A B (C::O) (C::Γ')
def ah.k1 {b:az}:ah A (b::A::g) (b::g):=.t .e
def ah.k2 {b c:az}:ah A (b::c::A::g) (b::c::g):=.t .k1
def ah.k3 {b c d:az}:ah A (b::c::d::A::g) (b::c::d::g):=.t .k2
def ah.j2 {b c:az}{f:List az}(h:ah A g f):ah A (b::c::g) (b::c::f):=.t (.t h)
def aH.k1 {b:az}:aH A B (b::A::g) (b::B::g):=.t .e
def aH.k2 {b c:az}:aH A B (b::c::A::g) (b::c::B::g):=.t .k1
def aH.k3 {b c d:az}:aH A B (b::c::d::A::g) (b::c::d::B::g):=.t .k2
def aH.j2 {b c:az}{f:List az}(h:aH A B g f):aH A B (b::c::g) (b::c::f):=.t (.t h)
def aH.bE (h:aH A B O Γ'):∃ Δ,ah A O Δ/\ah B Γ' Δ:=by
 induction h with
 |e=>exact⟨_,.e,.e⟩
 |t h ih=>
  obtain⟨Δ,h1,h2⟩:=ih;exact⟨_,.t h1,.t h2⟩
def Sep.put (s:Sep O H)(h:aH (pt a o) (pt a o') O Γ')(n:nr o'=nr o):Sep Γ' (upd H a o'):=by
 obtain⟨Δ,h1,h2⟩:=h.bE;exact((s.pull h1).set n).push h2
inductive Sub:List az->List az->Prop where
 |refl {O:List az}:Sub O O
 |nil {O:List az}:Sub [] O
 |cons {A:az}{O Γ' Δ:List az}(h:ah A O Δ) (r:Sub Γ' Δ):Sub (A::Γ') O
 |drop {A:az}{O Γ':List az}(r:Sub Γ' O):Sub Γ' (A::O)
def bI.sub:∀ {O Γ':List az}{D:Addr->Prop},Sub Γ' O->bI O H D->bI Γ' H D:=by
 intro O Γ' D h
 induction h generalizing D with
 |refl=>exact λz=>z
 |nil=>exact λ_=>True.intro
 |cons h r ih=>
  intro z;obtain⟨D1,D2,s1,s2,dj,h1,h2⟩:=bI.pull h z;exact⟨D1,D2,s1,s2,dj,h1,ih h2⟩
 |drop r ih=>
  rintro⟨D1,D2,s1,s2,dj,h1,h2⟩;exact(ih h2).up s2
def Sep.sub (h:Sub Γ' O)(s:Sep O H):Sep Γ' H:=let⟨D,k,z⟩:=s;⟨D,k,bI.sub h z⟩
end
@[irreducible] noncomputable def ae (T:Tab) (R:Rt) (k f:Nat):Sp:=dv T R k f
def sW:ae=dv:=by
 funext T R k f
 unfold ae
 rfl
variable {Q:VK}
def wc {T:Tab}{R:Rt}{k f:Nat}{d:ay}{vs:List V}{E:XK}(hk:0<k)(hd:T.fns[f]? =some d)(hl:vs.length=d.ps.length)
  (h:wB d.body ⟨T,R,ae T R (k-1),true⟩ { nx:=λ_ H'=>Q .non H',rt:=Q } (λ_=>E) (start d.N vs) H):ae T R k f vs H Q E:=by
 rw[sW]at h⊢;cases k with
 |zero=>exact absurd hk (by decide)
 |succ k=>
  show(match T.fns[f]? with|some d=>_|none=>False);rw[hd];exact⟨hl,h⟩
variable {c:Bool}
def bY {A B:Prop}(h1:c=true->A)(h2:c=false->B):jb c A B:=by
 unfold jb;cases c
 .exact h2 rfl
 .exact h1 rfl
def aV {A B:Prop}(h:c=true)(h1:A):jb c A B:=by subst h;unfold jb;exact h1
def ax {A B:Prop}(h:c=false)(h1:B):jb c A B:=by subst h;unfold jb;exact h1
def Ig {A B:Prop}(h:jb c B A):jb (!c) A B:=by
 unfold jb at h⊢;cases c
 .exact h
 .exact h
def aJ {p:Prop} [Decidable p] {A B:Prop}(h1:p->A)(h2:¬ p->B):jb (decide p) A B:=bY (λh=>h1 (of_decide_eq_true h)) λh=>h2 (of_decide_eq_false h)
def aS {i j:Int}{A B:Prop}(h1:i=j->A)(h2:i≠j->B):jb (dw (.int i) (.int j)) A B:=by
 show jb (i ==j) A B;exact bY (λh=>h1 (by simpa using h)) λh=>h2 (by simpa using h)
variable {dx:Addr}{n:Nat}{fs:List (Str×V)}{es:List V}{R:Hp->Prop}{fr:Bool}
section
variable {K:W.Frag}{G:Gx}{O Γ':List az}{H:Hp}{Q:VK}{a p:Addr}{o:HO}{xs ys:List V}{v w:V}{i:Int}{f:Str}
def al (s:Sep O H)(h:∀ p H',Sep (pt p o::O) H'->Q (.ref p) H'):∀ p,H p=none->Q (.ref p) (upd H p o):=λp hp=>h p _ (s.new hp)
def gk {C x:Addr}(s:Sep O H)(h1:H x=none)(h2:H dx=none)(h3:dx≠x):Sep (pt x (.ins C dx [])::pt dx (.own x)::O) (upd (upd H dx (.own x)) x (.ins C dx [])):=(s.new h2).new (by rw[aj h3.symm];exact h1)
def fS {dx:Option Addr}{E:XK}(s:Sep O H)(r:aH (pt a (.exc (G.R.cad n) dx fs true)) (pt a (.exc (G.R.cad n) dx fs false)) O Γ')(ho:G.T.xc.contains n=true)(h:∀ H',Sep Γ' H'->E a H'):
  ∃ b i dx fs,V.ref a=.ref b/\H b=some (.exc (G.R.cad i) dx fs true)/\G.T.xc.contains i=true/\E b (upd H b (.exc (G.R.cad i) dx fs false)):=by
 obtain⟨Δ,h1,h2⟩:=r.bE;exact⟨a,n,dx,fs,rfl,s.get h1,ho,h _ (s.put r rfl)⟩
def Nv (s:Sep O H)(h:∀ p H',Sep (tu p xs::O) H'->Q (.ref p) H'):∀ p,H p=none->Q (.ref p) (upd H p (.tup xs)):=λp hp=>h p _ (s.mY hp)
def FP (s:Sep O H)(hl:es.length<=10000)(h:∀ p H',Sep (pt p (.lst es)::O) H'->Q (.ref p) H'):CI es H Q:=by unfold CI;exact⟨hl,al s h⟩
def Ac (s:Sep O H)(hl:es.length<=10000)(h:∀ p H',Sep (pt p (.tup es)::O) H'->Q (.ref p) H'):mY es H Q:=by unfold mY;exact⟨hl,al s h⟩
def aI (e:H a=some (.lst xs))(hv:lS xs i=some v)(q:Q v H):qR K (.ref a) (.int i) H Q:=by unfold qR;exact .inl ⟨xs,i,v,rfl,.inl (bb.of e),hv,q⟩
def jm (e:H a=some (.tup xs))(hv:lS xs i=some v)(q:Q v H):qR K (.ref a) (.int i) H Q:=by unfold qR;exact .inl ⟨xs,i,v,rfl,.inr (bp.of e),hv,q⟩
def cI {j:Nat}(s:Sep O H)(r:aH (pt a (.lst xs)) (pt a (.lst ys)) O Γ')(hj:A2 xs.length i=some j)(hx:xs.set j v=ys)(h:∀ H',Sep Γ' H'->R H'):iI (.ref a) (.int i) v H R:=by
 obtain⟨Δ,h1,h2⟩:=r.bE;subst hx;unfold iI;exact .inl ⟨xs,i,j,rfl,s.get h1,hj,h _ (s.put r rfl)⟩
def K2 (e:H a=some (.lst xs))(h0:0<=i)(hv:xs[i.toNat]? =some v)(q:Q v H):Br K (.ref a) (.int i) H Q:=by unfold Br;exact⟨xs,v,bb.of e,h0,hv,q⟩
def cy (e:H a=some (.ins (G.R.cad n) dx fs))(ho:G.T.oc.contains n=true)(hn:G.T.na.contains (n,f)=true)(hl:fs.lookup f=some v)(q:Q v H):t5 G f (.ref a) H Q:=by unfold t5;exact⟨a,n,fs,v,rfl,.inl ⟨ho,dx,e⟩,hn,hl,q⟩
def KG (e:H a=some (.exc (G.R.cad n) (some dx) fs fr))(ho:G.T.xc.contains n=true)(hn:G.T.na.contains (n,f)=true)(hl:fs.lookup f=some v)(q:Q v H):t5 G f (.ref a) H Q:=by unfold t5;exact⟨a,n,fs,v,rfl,.inr ⟨ho,dx,fr,e⟩,hn,hl,q⟩
def Mf {fs':List (Str×V)}(s:Sep O H)(r:aH (pt a (.ins (G.R.cad n) dx fs)) (pt a (.ins (G.R.cad n) dx fs')) O Γ')(ho:G.T.oc.contains n=true)(hn:G.T.na.contains (n,f)=true)(hl:fs.length<1000)(hf:cY f v fs=fs')(h:∀ H',Sep Γ' H'->R H'):CO G f (.ref a) v H R:=by
 obtain⟨Δ,h1,h2⟩:=r.bE;subst hf;unfold CO;exact⟨a,n,rfl,hn,.inl ⟨dx,fs,ho,s.get h1,hl,h _ (s.put r rfl)⟩⟩
def Cj {d:Addr}{fs':List (Str×V)}(s:Sep O H)(r:aH (pt a (.exc (G.R.cad n) (some d) fs fr)) (pt a (.exc (G.R.cad n) (some d) fs' fr)) O Γ')(ho:G.T.xc.contains n=true)(hn:G.T.na.contains (n,f)=true)(hl:fs.length<1000)(hf:cY f v fs=fs')(h:∀ H',Sep Γ' H'->R H'):CO G f (.ref a) v H R:=by
 obtain⟨Δ,h1,h2⟩:=r.bE;subst hf;unfold CO;exact⟨a,n,rfl,hn,.inr (.inl ⟨d,fs,fr,ho,s.get h1,hl,h _ (s.put r rfl)⟩)⟩
def vQ (s:Sep (pt a (.exc (G.R.cad n) none [] fr)::O) H)(ho:G.T.xc.contains n=true)(hn:G.T.na.contains (n,f)=true)(h:∀ d H',Sep (pt a (.exc (G.R.cad n) (some d) [(f,v)] fr)::pt d (.own a)::O) H'->R H'):CO G f (.ref a) v H R:=by
 unfold CO;refine⟨a,n,rfl,hn,.inr (.inr ⟨fr,ho,s.at,λd hd=>h d _ ?_⟩)⟩;exact((s.new (o:=.own a) hd).pull (.t .e)).set rfl
def jM {n:String}{b:Bool}(ht:tyName v H=some t)(hb:G.T.subB.lookup (t,n)=some b)(q:Q (.bl b) H):nA G (.ty n) v H Q:=by unfold nA;exact .inl ⟨t,b,ht,hb,q⟩
def KC {j:Nat}{b:Bool}(e:H a=some (.ins (G.R.cad j) dx fs))(ho:G.T.oc.contains j=true)(hb:G.T.sub.lookup (j,n)=some b)(q:Q (.bl b) H):nA G (.own n) (.ref a) H Q:=by unfold nA;exact .inr ⟨a,j,b,rfl,.inl ⟨ho,dx,fs,e⟩,hb,q⟩
def fX (e:H a=some (.lst xs))(q:Q (.int xs.length) H):qB G .len [.ref a] H Q:=by unfold qB;exact⟨_,xs.length,rfl,.inl ⟨xs,bb.of e,rfl⟩,q⟩
def FG {j:Int}(hc:G.cm=true)(q:Q (.int (min i j)) H):qB G .min [.int i,.int j] H Q:=by
 unfold qB;refine⟨hc,.inl ⟨i,j,rfl,?_⟩⟩;have e:(if j<i then j else i)=min i j:=by split<;>omega
 rw[e];exact q
def bT (h0:0<=i)(h1:i<n):A2 n i=some i.toNat:=by
 unfold A2;rw[if_pos h0,if_pos h1]
def wm (s:Sep O H)(e:H a=some (.lst xs))(h:∀ p H',Sep (pt p (.lst xs)::O) H'->Q (.ref p) H'):qB G .list [.ref a] H Q:=by unfold qB;exact .inl ⟨_,xs,rfl,.inl (bb.of e),al s h⟩
def GS (s:Sep O H)(e:H a=some (.lst xs))(h:∀ p H',Sep (tu p xs::O) H'->Q (.ref p) H'):qB G .tuple [.ref a] H Q:=by unfold qB;exact⟨_,xs,rfl,.inl ⟨bb.of e,Nv s h⟩⟩
def Jx (s:Sep O H)(e:H a=some (.lst xs))(h1: -1000<=i)(h2:i<=1000)(h3:xs.length<=1000)(h:∀ p H',Sep (pt p (.lst (tz i.toNat xs).flatten)::O) H'->Q (.ref p) H'):CZ K a i H Q:=by unfold CZ;exact .inl ⟨xs,e,h1,h2,h3,al s h⟩
def lM {y:V}(s:Sep O H)(r:aH (pt a (.lst xs)) (pt a (.lst (xs++[y]))) O Γ')(hl:xs.length<=10000)(h:∀ H',Sep Γ' H'->Q .non H'):DJ .append a xs [y] H Q:=by unfold DJ;exact⟨_,rfl,hl,h _ (s.put r rfl)⟩
def JM (s:Sep O H)(r:aH (pt a (.lst xs)) (pt a (.lst [])) O Γ')(h:∀ H',Sep Γ' H'->Q .non H'):DJ .clear a xs [] H Q:=by unfold DJ;exact⟨rfl,h _ (s.put r rfl)⟩
def L7 {lo hi:Option Int}(s:Sep O H)(e:bb K H a xs)(h:∀ p H',Sep (pt p (.lst (sL xs lo hi))::O) H'->Q (.ref p) H'):IE K (.ref a) lo hi H Q:=by unfold IE;exact .inl ⟨xs,e,al s h⟩
def Mz {R:It->Hp->Prop}(e:H a=some (.lst xs))(h:R (Fd K a) H):uJ K a H R:=by unfold uJ;exact .inl ⟨⟨xs,bb.of e⟩,h⟩
def KH {R:It->Hp->Prop}(e:H a=some (.lst xs))(h:R (Jl a) H):DW a H R:=by unfold DW;exact⟨⟨xs,e⟩,h⟩
end
variable {x:V}
section
variable {K:W.Frag}{H:Hp}{Q:VK}
def iY (f:aZ x=true):dw x x=true:=by
 cases x<;>simp[aZ]at f<;>simp[dw]
def wj {y:V}(fx:aZ x=true)(fy:aZ y=true)(q:Q (.bl (dw x y)) H):hR K false x y H Q:=by unfold hR;exact⟨0,_,.flat fx fy,by decide,.inl fx,q⟩
def wF {y:V}(fx:aZ x=true)(fy:aZ y=true)(q:Q (.bl (!dw x y)) H):hR K true x y H Q:=by unfold hR;exact⟨0,_,.flat fx fy,by decide,.inl fx,q⟩
def zW {b:Addr}(h:dR K H n (.ref a) (.ref b) c)(hn:n<=100)(ne:a≠b)(q:Q (.bl c) H):hR K false (.ref a) (.ref b) H Q:=by unfold hR;exact⟨n,c,h,hn,.inr (.inl λz=>ne (V.ref.inj z)),q⟩
def uF {b:Addr}(h:dR K H n (.ref a) (.ref b) c)(hn:n<=100)(ne:a≠b)(q:Q (.bl (!c)) H):hR K true (.ref a) (.ref b) H Q:=by unfold hR;exact⟨n,c,h,hn,.inr (.inl λz=>ne (V.ref.inj z)),q⟩
def rD (h:tyName x H=some t):dR K H (n+1) x x true:=by
 have key:aZ x=true->dR K H (n+1) x x true:=λf=>by
  have:=dR.flat (K:=K) (H:=H) (n:=n+1) f f
  rwa [iY f]at this
 cases x<;>first|exact key rfl|exact .same _|(cases h)
def all_true (n:Nat):(List.range n).all (λ_=>true)=true:=by simp
def sJ {b:Addr}(h1:H a=some (.lst xs))(h2:H b=some (.lst xs))(h:∀ x ∈ xs,∃ t,tyName x H=some t):dR K H (n+2) (.ref a) (.ref b) true:=by
 have:=dR.ll (K:=K) (n:=n) (e:=λ_=>true) (bb.of h1) (bb.of h2) rfl λj x y e1 e2=>by
  rw[e1]at e2;cases e2;obtain⟨t,ht⟩:=h x (db e1);exact rD ht
 rwa [all_true]at this
def Gi {b:Addr}{ys:List V}(h1:H a=some (.tup xs))(h2:H b=some (.tup ys))(hl:xs.length=ys.length)(h:∀ (j:Nat) x y,xs[j]? =some x->ys[j]? =some y->dR K H (n+1) x y true):dR K H (n+2) (.ref a) (.ref b) true:=by
 have:=dR.tt (K:=K) (n:=n) (e:=λ_=>true) (bp.of h1) (bp.of h2) h;rw[all_true,hl]at this;simpa using this
end
variable {K:W.Frag}{rest:St}{te:TE}
section
variable {D:Ends}{F:(St->Hp->Prop)->V->St->Hp->Prop}{U:St}{H:Hp}
def dh {lo:Int}(I:Nat->St->Hp->Prop)(h0:I 0 U H)(hs:∀ j U H,j<n->I j U H->F (I (j+1)) (.int (lo+j)) U H) (hd:∀ U H,I n U H->D.nx U H):m8 (Fb lo n) D F U H:=by
 unfold m8;refine⟨λi m U H=>m=n-i/\i<=n/\I i U H,⟨n,by simp,Nat.zero_le _,h0⟩,λi m U H ⟨e,hi,h⟩=>?_⟩
 by_cases hlt:i<n
 .refine .inr ⟨hlt,I (i+1),λσ' H' h'=>⟨n-(i+1),by omega,rfl,hlt,h'⟩,λx H' y=>?_⟩;obtain⟨rfl,rfl⟩:=y;exact hs i U H' hlt h
 .have:i=n:=by omega
  subst this;exact .inl ⟨sw _,hd U H h⟩
def fY (I:Nat->St->Hp->Prop)(h0:I 0 U H)(hl:∀ j U H,I j U H->bb K H a xs)
  (hs:∀ j x U H,xs[j]? =some x->I j U H->F (I (j+1)) x U H) (hd:∀ U H,I xs.length U H->D.nx U H):m8 (Fd K a) D F U H:=by
 unfold m8;refine⟨λi m U H=>m=xs.length-i/\i<=xs.length/\I i U H,⟨xs.length,by simp,Nat.zero_le _,h0⟩,λi m U H ⟨e,hi',h⟩=>?_⟩
 by_cases hlt:i<xs.length
 .refine .inr ⟨⟨xs,xs[i],hl i U H h,lw hlt⟩,I (i+1),λσ' H' h'=>⟨xs.length-(i+1),by omega,rfl,hlt,h'⟩,λx H' y=>?_⟩;obtain⟨rfl,hy⟩:=y;exact hs i x U H' (hy xs (hl i U H' h)) h
 .have:i=xs.length:=by omega
  subst this;exact .inl ⟨⟨xs,hl _ U H h,sw _⟩,hd U H h⟩
def vJ (I:Nat->St->Hp->Prop)(h0:I 0 U H)(hl:∀ j U H,I j U H->H a=some (.lst xs)) (hs:∀ j x T U H,xs[j]? =some x->I j U H->H T=none->F (I (j+1)) (.ref T) U (upd H T (.tup [.int j,x])))
  (hd:∀ U H,I xs.length U H->D.nx U H):m8 (Jl a) D F U H:=by
 unfold m8;refine⟨λi m U H=>m=xs.length-i/\i<=xs.length/\I i U H,⟨xs.length,by simp,Nat.zero_le _,h0⟩,λi m U H ⟨e,hi',h⟩=>?_⟩
 by_cases hlt:i<xs.length
 .refine .inr ⟨⟨xs,xs[i],hl i U H h,lw hlt⟩,I (i+1),λσ' H' h'=>⟨xs.length-(i+1),by omega,rfl,hlt,h'⟩,λx H' y=>?_⟩;obtain⟨T,z,hT,rfl,rfl,hy⟩:=y;exact hs i z T U H (hy xs (hl i U H h)) h hT
 .have:i=xs.length:=by omega
  subst this;exact .inl ⟨⟨xs,hl _ U H h,sw _⟩,hd U H h⟩
@[irreducible] noncomputable def rz (I:Addr->List V->Hp->Prop) (D:Addr) (ys:List V) (rest:St) (x:Option V):VK:=λv H3=>∃ zs,H3 D=some (.lst zs)/\zs.length<bv/\∃ ys2 x2,x::rest=x2::rest/\ys2.length=ys.length+1/\I D ys2 (upd H3 D (.lst (zs++[v])))
def rz.mk {I:Addr->List V->Hp->Prop}{D:Addr}{ys:List V}{x:Option V}{v:V}{H3:Hp}(h1:H3 D=some (.lst ys))(hl:ys.length<=999)(h2:I D (ys++[v]) (upd H3 D (.lst (ys++[v])))):rz I D ys rest x v H3:=
 by unfold rz;exact⟨ys,h1,dD nofun,ys++[v],x,rfl,by simp,h2⟩
def vb (hn:n<=1000)(I:Addr->List V->Hp->Prop)(h0:∀ D,H D=none->I D [] (upd H D (.lst [])))
  (hs:∀ D ys H',ys.length<n->I D ys H'->te (some (.int (0+(ys.length:Nat)))::rest) H' (rz I D ys rest (some (.int (0+(ys.length:Nat))))))
  (hd:∀ D ys H',ys.length=n->I D ys H'->Q (.ref D) H'):yD te (Fb 0 n) (none::rest) H Q:=by
 unfold yD;intro D hD;refine⟨λi m σ' H'=>m=n-i/\i<=n/\∃ ys x0,σ'=x0::rest/\ys.length=i/\I D ys H',⟨n,by simp,Nat.zero_le _,[],none,rfl,rfl,h0 D hD⟩,λi m σ' H' ⟨e,hi,ys,x0,e1,e2,h⟩=>?_⟩;subst e1 e2
 by_cases hlt:ys.length<n
 .refine .inr ⟨hlt,λσ2 H2=>∃ ys2 x2,σ2=x2::rest/\ys2.length=ys.length+1/\I D ys2 H2,λσ2 H2 ⟨ys2,x2,f1,f2,f3⟩=>⟨n-(ys.length+1),by omega,rfl,hlt,ys2,x2,f1,f2,f3⟩,λx H'' y=>?_⟩;obtain⟨e1,e2⟩:=y;subst e1 e2;have z:=hs D ys H'' hlt h;unfold rz at z;exact z
 .have:ys.length=n:=by omega
  exact .inl ⟨Nat.le_of_eq this.symm,hd D ys H' this h⟩
def pS (hn:xs.length<=1000)(I:Addr->List V->Hp->Prop)(hl:∀ D ys H,I D ys H->bb K H a xs) (h0:∀ D,H D=none->I D [] (upd H D (.lst [])))
  (hs:∀ D ys x H',xs[ys.length]? =some x->I D ys H'->te (some x::rest) H' (rz I D ys rest (some x)))
  (hd:∀ D ys H',ys.length=xs.length->I D ys H'->Q (.ref D) H'):yD te (Fd K a) (none::rest) H Q:=by
 unfold yD;intro D hD;refine⟨λi m σ' H'=>m=xs.length-i/\i<=xs.length/\∃ ys x0,σ'=x0::rest/\ys.length=i/\I D ys H',⟨xs.length,by simp,Nat.zero_le _,[],none,rfl,rfl,h0 D hD⟩,λi m σ' H' ⟨e,hi,ys,x0,e1,e2,h⟩=>?_⟩;subst e1 e2
 by_cases hlt:ys.length<xs.length
 .refine .inr ⟨⟨xs,xs[ys.length],hl D ys H' h,lw hlt⟩,λσ2 H2=>∃ ys2 x2,σ2=x2::rest/\ys2.length=ys.length+1/\I D ys2 H2,λσ2 H2 ⟨ys2,x2,f1,f2,f3⟩=>⟨xs.length-(ys.length+1),by omega,rfl,hlt,ys2,x2,f1,f2,f3⟩,λx H'' y=>?_⟩;obtain⟨e1,hy⟩:=y;subst e1;have z:=hs D ys x H'' (hy xs (hl D ys H'' h)) h;unfold rz at z;exact z
 .have:ys.length=xs.length:=by omega
  exact .inl ⟨⟨xs,hl D ys H' h,Nat.le_of_eq this.symm⟩,hd D ys H' this h⟩
def Fp {K:W.Frag}{G:Gx}{bs:List Bool}(hc:G.cm=true)(e:H a=some (.lst (bs.map V.bl)))(q:Q (.bl (bs.all id)) H):qB G .all [.ref a] H Q:=by unfold qB;exact⟨hc,_,bs,rfl,bb.of e,q⟩
def jv (q:Q (.bl (decide (x=.non))) H):BY false x .non H Q:=by unfold BY;exact q
def bQ (q:Q (.bl (!decide (x=.non))) H):BY true x .non H Q:=by unfold BY;exact q
def gh (e:bp K H a xs)(fx:aZ x=true)(fs:xs.all aZ=true)(q:Q (.bl (ID x xs)) H):JN K false x (.ref a) H Q:=by unfold JN;exact .inl ⟨xs,.inr e,fx,fs,q⟩
end
variable {kvs:List (Key×V)}{k:Key}{p:Addr}
section
variable {K:W.Frag}{G:Gx}{O Γ':List az}{H:Hp}{Q:VK}{a b:Addr}{xs ys:List V}{v:V}
def JH {tp1 tp2:Bool}{R:It->Hp->Prop}(h1:Sq K tp1 H a xs)(h2:Sq K tp2 H b ys)(h:R (Lb K tp1 a tp2 b) H):DM K (.ref a) (.ref b) H R:=by unfold DM;exact⟨tp1,a,tp2,b,rfl,rfl,⟨xs,h1⟩,⟨ys,h2⟩,h⟩
def vI {D:Ends}{F:(St->Hp->Prop)->V->St->Hp->Prop}{U:St}{tp1 tp2:Bool}(I:Nat->St->Hp->Prop)(hn:xs.length=ys.length)(h0:I 0 U H)(hl:∀ j U H,I j U H->Sq K tp1 H a xs/\Sq K tp2 H b ys)
  (hs:∀ j x y T U H,xs[j]? =some x->ys[j]? =some y->I j U H->H T=none->F (I (j+1)) (.ref T) U (upd H T (.tup [x,y]))) (hd:∀ U H,I xs.length U H->D.nx U H):m8 (Lb K tp1 a tp2 b) D F U H:=by
 unfold m8;refine⟨λi m U H=>m=xs.length-i/\i<=xs.length/\I i U H,⟨xs.length,by simp,Nat.zero_le _,h0⟩,λi m U H ⟨e,hi',h⟩=>?_⟩
 by_cases hlt:i<xs.length
 .obtain⟨g1,g2⟩:=hl i U H h;refine .inr ⟨⟨xs,ys,xs[i],ys[i]'(hn▸hlt),g1,g2,lw hlt,lw (hn▸hlt)⟩,I (i+1),λσ' H' h'=>⟨xs.length-(i+1),by omega,rfl,hlt,h'⟩,λx H' y=>?_⟩;obtain⟨T,z,z',hT,rfl,rfl,hy,hy'⟩:=y;exact hs i z z' T U H (hy xs g1) (hy' ys g2) h hT
 .have:i=xs.length:=by omega
  subst this;obtain⟨g1,g2⟩:=hl _ U H h;exact .inl ⟨⟨xs,ys,g1,g2,.inl (sw _)⟩,hd U H h⟩
def K9 {tp1 tp2:Bool}{ks:List Key}(s:Sep O H)(h1:Sq K tp1 H a (ks.map kV))(h2:Sq K tp2 H b ys)(hn:ks.Nodup)(hl:ks.length=ys.length)(hz:ks.length<=1000)(h:∀ p H',Sep (pt p (.dK (ks.zip ys))::O) H'->Q (.ref p) H'):Ke K (.ref a) (.ref b) H Q:=by unfold Ke;exact⟨tp1,a,tp2,b,ks,ys,rfl,rfl,h1,h2,hn,hl,hz,al s h⟩
def pG (e:H a=some (.dK kvs))(hv:gi kvs k=some v)(q:Q v H):qR K (.ref a) (kV k) H Q:=by unfold qR;exact .inr ⟨v,.inl ⟨kvs,k,.inl e,rfl,hv.symm⟩,q⟩
def wq {kvs':List (Key×V)}(s:Sep O H)(r:aH (pt a (.dK kvs)) (pt a (.dK kvs')) O Γ')(hl:kvs.length<=10000)(hx:putK kvs k v=kvs')(h:∀ H',Sep Γ' H'->R H'):iI (.ref a) (kV k) v H R:=by
 obtain⟨Δ,h1,h2⟩:=r.bE;subst hx;unfold iI;exact .inr ⟨_,.inl ⟨kvs,k,s.get h1,rfl,Nat.lt_of_le_of_lt hl (by decide),rfl⟩,h _ (s.put r rfl)⟩
def vU (s:Sep O H)(e:H a=some (.dK kvs))(h:∀ p H',Sep (pt p (.dK kvs)::O) H'->Q (.ref p) H'):qB G .dict [.ref a] H Q:=by unfold qB;exact⟨_,kvs,rfl,e,al s h⟩
def Io (hn:xs.length<=1000)(I:Addr->List V->Hp->Prop)(hl:∀ D ys H,I D ys H->bp K H a xs) (h0:∀ D,H D=none->I D [] (upd H D (.lst [])))
  (hs:∀ D ys x H',xs[ys.length]? =some x->I D ys H'->te (some x::rest) H' (rz I D ys rest (some x)))
  (hd:∀ D ys H',ys.length=xs.length->I D ys H'->Q (.ref D) H'):yD te (Jt K a) (none::rest) H Q:=by
 unfold yD;intro D hD;refine⟨λi m σ' H'=>m=xs.length-i/\i<=xs.length/\∃ ys x0,σ'=x0::rest/\ys.length=i/\I D ys H',⟨xs.length,by simp,Nat.zero_le _,[],none,rfl,rfl,h0 D hD⟩,λi m σ' H' ⟨e,hi,ys,x0,e1,e2,h⟩=>?_⟩;subst e1 e2
 by_cases hlt:ys.length<xs.length
 .refine .inr ⟨⟨xs,xs[ys.length],hl D ys H' h,lw hlt⟩,λσ2 H2=>∃ ys2 x2,σ2=x2::rest/\ys2.length=ys.length+1/\I D ys2 H2,λσ2 H2 ⟨ys2,x2,f1,f2,f3⟩=>⟨xs.length-(ys.length+1),by omega,rfl,hlt,ys2,x2,f1,f2,f3⟩,λx H'' y=>?_⟩;obtain⟨e1,hy⟩:=y;subst e1;have z:=hs D ys x H'' (hy xs (hl D ys H'' h)) h;unfold rz at z;exact z
 .have:ys.length=xs.length:=by omega
  exact .inl ⟨⟨xs,hl D ys H' h,Nat.le_of_eq this.symm⟩,hd D ys H' this h⟩
def Jq {R:It->Hp->Prop}(e:bp K H a xs)(h:R (Jt K a) H):uJ K a H R:=by unfold uJ;exact .inr ⟨⟨xs,e⟩,h⟩
def LF {w:V}(e:H p=some (.dK kvs))(q:Q ((gi kvs k).getD w) H):Dw p (kV k) w H Q:=by unfold Dw;exact⟨kvs,k,e,rfl,q⟩
def zO {d:Addr}(hc:G.cm=true)(s:Sep O H)(e:H d=some (.dK kvs))(h:∀ p H',Sep (pt p (.lst (kvs.map (λkv=>kV kv.1)))::O) H'->Q (.ref p) H'):qB G .list [.ref d] H Q:=by unfold qB;exact .inr ⟨hc,d,kvs,rfl,e,al s h⟩
def K6 (s:Sep O H)(e:H p=some (.lst xs))(h:∀ l H',Sep (pt l (.lst xs.reverse)::O) H'->Q (.ref l) H'):DO K (.ref p) (.int (-1)) H Q:=by unfold DO;exact⟨rfl,p,xs,rfl,bb.of e,al s h⟩
def LU {y:V}{j:Nat}(e:V->Bool)(h1:H p=some (.lst xs))(hl:xs.length<=10000)(he:∀ x ∈ xs,∃ n,n<=100/\dR K H n x y (e x)) (hj:xs[j]? =some x) (ej:e x=true) (hm:∀ (m:Nat) x,m<j->xs[m]? =some x->e x=false) (q:Q (.int (j:Int)) H):yX K p y H Q:=by unfold yX;exact⟨xs,e,j,x,h1,hl,he,hj,ej,hm,q⟩
def yu {C:Addr}(s:Sep O H)(h:∀ x dx H',Sep (pt x (.ins C dx [])::pt dx (.own x)::O) H'->Q (.ref x) H'):yP C H Q:=by unfold yP;exact λx dx h1 h2 h3=>h x dx _ (gk s h1 h2 h3)
end
end L3
namespace L3
open PySem PySem.Spec PySem.W L2
variable {ps:List Str}
def A7:∀ {us:List Value}{n:Str},us.length=ps.length->n ∈ ps->((ps.zip us).lookup n).isNone=false:=by
 induction ps with
 |nil=>intro us n _ h;cases h
 |cons p ps ih=>
  intro us n hl h;cases us with
  |nil=>cases hl
  |cons u us=>
   rw[zip_cons_cons,lookup_cons];cases e:n ==p with
   |true=>rfl
   |false=>
    rcases nw.mp h with rfl|h
    .rw[beq_self_eq_true]at e;cases e
    .exact ih (Nat.succ.inj hl) h
def uV:∀ {ps:List Str}{us:List Value},ps.Nodup->us.length=ps.length->∀ {L:List (Str×Value)},(∀ n ∈ ps,L.lookup n=(ps.zip us).lookup n)->ps.filterMap (λn=>(L.lookup n).map (n,·))=ps.zip us
 | [],us,_,_,L,_=>rfl
 |p::ps,[],_,hl,L,_=>by cases hl
 |p::ps,u::us,nd,hl,L,hL=>by
  have h0:L.lookup p=some u:=by rw[hL p mo,zip_cons_cons,lookup_cons,beq_self_eq_true]
  rw[filterMap_cons,h0,zip_cons_cons];show(p,u)::_=_;rw[uV (nodup_cons.mp nd).2 (Nat.succ.inj hl) (L:=L)];intro n hn;rw[hL n (dL _ hn),zip_cons_cons,lookup_cons];have:(n ==p)=false:=by
   cases e:n ==p with
   |false=>rfl
   |true=>
    have:=beq_iff_eq.mp e;subst this;exact absurd hn (nodup_cons.mp nd).1
  rw[this]
variable {fd:FuncData}
def qJ (nd:ps.Nodup)(h1:fd.params.posonlyargs=[])(h2:fd.params.args.map (·.arg)=ps)(h3:fd.params.kwonlyargs=[])(h4:fd.params.vararg=none)(h5:fd.params.kwarg=none)(h6:fd.defaults=.none)(us:List Value)(hl:us.length=ps.length):
  bindArgs fd ⟨us,[]⟩=pure (ps.zip us):=by
 obtain⟨name,qual,⟨po,as,va,ko,kd,ka,df⟩,body,scope,glo,bU,dV,kV,doc,pm,an,cdv,ct,bu⟩:=fd;dsimp only at h1 h2 h3 h4 h5 h6;subst h1 h2 h3 h4 h5 h6;generalize hps:as.map (·.arg)=ps at nd hl⊢;have e1:seqItems? (Value.none)=(pure none:Sem (Option (Array Value))):=rfl;have e2:∀ f:Str->Bool,(∀ n ∈ ps,f n=false)->ps.filter f=[]:=λf h=>List.filter_eq_nil_iff.mpr λa ha=>by rw[h a ha];decide
 have e3:¬ (us.length>ps.length):=by omega
 have e4:=e2 (λn=>((ps.zip us).lookup n).isNone) λn hn=>A7 hl hn
 have e5:=uV nd hl (L:=ps.zip us) λ_ _=>rfl
 unfold bindArgs;dsimp only[List.map_nil,nil_append,append_nil];rw[hps];simp[e1,e3,e4,e5]
abbrev gD (S:List (Str×Value))(x:Str×Value):List (Str×Value):=if(S.lookup x.1).isNone=true then S++[x] else S
def E4:∀ {L:List (Str×Value)}{S:List (Str×Value)},(∀ x ∈ L,(S.lookup x.1).isNone=false)->L.foldl gD S=S
 | [],_,_=>rfl
 |x::L,S,h=>by
  have h0:gD S x=S:=by
   unfold gD;rw[if_neg (by rw[h x mo];decide)]
  rw[foldl_cons,h0];exact E4 λy hy=>h y (dL _ hy)
def Et:∀ {L:List (Str×Value)}{S:List (Str×Value)},(L.map (·.1)).Nodup->(∀ x ∈ L,S.lookup x.1=none)->L.foldl gD S=S++L
 | [],S,_,_=>by rw[append_nil];rfl
 |x::L,S,nd,h=>by
  have h0:gD S x=S++[x]:=by
   unfold gD;rw[if_pos (by rw[h x mo];rfl)]
  rw[map_cons]at nd;rw[foldl_cons,h0,Et (nodup_cons.mp nd).2]
  .rw[li];rfl
  .intro y hy;have hne:(y.1 ==x.1)=false:=by
    cases e:y.1 ==x.1 with
    |false=>rfl
    |true=>
     have e:=beq_iff_eq.mp e;exact absurd (List.mem_map_of_mem (f:=(·.1)) hy) (e▸(nodup_cons.mp nd).1)
   obtain⟨a,b⟩:=x;rw[List.lookup_append,h y (dL _ hy),lookup_cons,hne]
   rfl
def EA {n:Str}:∀ {L:List (Str×Value)},(∀ x ∈ L,x.1≠n)->L.lookup n=none
 | [],_=>rfl
 |(a,b)::L,h=>by
  have:(n ==a)=false:=by
   cases e:n ==a with
   |false=>rfl
   |true=>exact absurd (beq_iff_eq.mp e).symm (h (a,b) mo)
  rw[lookup_cons,this];exact EA λx hx=>h x (dL _ hx)
variable {A:List Str}{B:List Value}
def qc {x:Str×Value}(h:x ∈ A.zip B):x.1 ∈ A:=by
 obtain⟨a,b⟩:=x;exact(of_mem_zip h).1
def zip_map (h:A.length<=B.length):(A.zip B).map (·.1)=A:=List.map_fst_zip h
def ql {B:List Str}{us:List Value}(h:A.length=us.length):(A++B).zip us=A.zip us:=by
 have:=zip_append (l₁:=A) (l₂:=us) (r₁:=B) (r₂:=[]) h;rw[append_nil,List.zip_nil_right,append_nil]at this;exact this
def B9 {B:List Str}{us D1 D2:List Value}(nd:(A++B).Nodup)(h1:A.length=us.length)(h2:B.length=D2.length)(h3:D1.length<=A.length):
  (((A++B).drop (A.length-D1.length)).zip (D1++D2)).foldl gD ((A++B).zip us)=(A++B).zip (us++D2):=by
 have a:=E4 (L:=(A.drop (A.length-D1.length)).zip D1) (S:=(A++B).zip us) λx hx=>by
  rw[ql h1];exact A7 h1.symm (List.mem_of_mem_drop (qc hx))
 have b:=Et (L:=B.zip D2) (S:=(A++B).zip us) (by rw[zip_map nofun];exact(List.nodup_append.mp nd).2.1) λx hx=>by
  refine EA λy hy e=>?_
  rw[ql h1]at hy;exact(List.nodup_append.mp nd).2.2 y.1 (qc hy) x.1 (qc hx) e
 rw[List.drop_append_of_le_length nofun,zip_append (by rw[jp];omega),List.foldl_append,a,b,ql h1,zip_append h1]
def Ah {us ds:List Value}(nd:ps.Nodup)(h1:us.length<=ps.length)(h2:ds.length<=ps.length)(h3:ps.length<=us.length+ds.length):
  ((ps.drop (ps.length-ds.length)).zip ds).foldl gD (ps.zip us)=ps.zip (us++ds.drop (us.length+ds.length-ps.length)):=by
 have nd2:(ps.take us.length++ps.drop us.length).Nodup:=by rw[take_append_drop];exact nd
 have:=B9 (A:=ps.take us.length) (B:=ps.drop us.length) (us:=us) (D1:=ds.take (us.length+ds.length-ps.length)) (D2:=ds.drop (us.length+ds.length-ps.length)) nd2 (by rw[dl];omega) (by rw[jp,jp];omega) (by rw[dl,dl];omega);rw[take_append_drop,take_append_drop,dl,dl]at this;rw[show min us.length ps.length-min (us.length+ds.length-ps.length) ds.length=ps.length-ds.length by omega]at this;exact this
def rW:∀ {L:List (Str×Value)}{S:List (Str×Value)},(forIn L S λx r=>(match x with|(name,d)=>if(r.lookup name).isNone=true then pure (ForInStep.yield (r++[(name,d)])) else pure (ForInStep.yield r):Sem (ForInStep (List (Str×Value)))))=pure (L.foldl gD S)
 | [],S=>by simp
 |(a,b)::L,S=>by
  rw[forIn_cons,foldl_cons,<-rW];unfold gD
  by_cases e:(S.lookup a).isNone=true
  .simp only[e,if_true,pure_bind]
  .simp only[e,if_false,pure_bind,Bool.false_eq_true]
def Bh {T:Addr}{items:Array Value}(nd:ps.Nodup)(h1:fd.params.posonlyargs=[])(h2:fd.params.args.map (·.arg)=ps)(h3:fd.params.kwonlyargs=[])(h4:fd.params.vararg=none)(h5:fd.params.kwarg=none)(h6:fd.defaults=.ref T)(us:List Value)(l1:us.length<=ps.length)(l2:items.toList.length<=ps.length)(l3:ps.length<=us.length+items.toList.length):
  ∃ k:Option (Array Value)->Sem (List (Str×Value)),bindArgs fd ⟨us,[]⟩=seqItems? fd.defaults >>= k/\k (some items)=pure (ps.zip (us++items.toList.drop (us.length+items.toList.length-ps.length))):=by
 obtain⟨name,qual,⟨po,as,va,ko,kd,ka,df⟩,body,scope,glo,bU,dV,kV,doc,pm,an,cdv,ct,bu⟩:=fd;dsimp only at h1 h2 h3 h4 h5 h6;subst h1 h2 h3 h4 h5 h6;generalize hps:as.map (·.arg)=ps at nd l1 l2 l3⊢;have e2:∀ f:Str->Bool,(∀ n ∈ ps.take (ps.length-items.toList.length),f n=false)->(ps.take (ps.length-items.toList.length)).filter f=[]:=λf h=>List.filter_eq_nil_iff.mpr λa ha=>by rw[h a ha];decide
 have e3:¬ (us.length>ps.length):=by omega
 have ez:ps.zip us=(ps.take us.length).zip us:=by
  have:=ql (A:=ps.take us.length) (B:=ps.drop us.length) (us:=us) (by rw[dl];omega);rw[take_append_drop]at this;exact this
 have e4:=e2 (λn=>((ps.zip us).lookup n).isNone) λn hn=>by
  rw[ez];refine A7 (by rw[dl];omega) ?_;have:ps.take (ps.length-items.toList.length)=(ps.take us.length).take (ps.length-items.toList.length):=by rw[List.take_take,Nat.min_eq_left nofun]
  rw[this]at hn;exact List.mem_of_mem_take hn
 have e6:=Ah (us:=us) (ds:=items.toList) nd l1 l2 l3;have e5:=uV (us:=us++items.toList.drop (us.length+items.toList.length-ps.length)) nd (by rw[cr,jp];omega) λ_ _=>rfl
 have e7:items.toList.length-ps.length=0:=by omega
 unfold bindArgs;dsimp only[List.map_nil,nil_append,append_nil];rw[hps];refine⟨_,rfl,?_⟩;simp only[Option.getD_some,List.map_nil,nil_append,e7,drop_zero,e4,e3,List.isEmpty_nil,Bool.not_true,decide_false,Bool.false_and,Bool.false_eq_true,if_false,forIn_nil,append_nil];rw[rW,e6,pure_bind,pure_bind];simp only[e5,List.isEmpty_nil,Bool.not_true,Bool.false_eq_true,if_false]
abbrev Eu (x:Option (Option Value))(a:Addr):Bool:=match x with
 |some (some (.ref b))=>b ==a
 |_=>false
variable {x:Option (Option Value)}
def g5 {a:Addr}(h:Eu x a=true):x=some (some (.ref a)):=by
 unfold Eu at h
 split at h
 .rw[beq_iff_eq.mp h]
 .cases h
abbrev tG (x:Option (Option Value))(a:String):Bool:=match x with
 |some (some (.builtin b))=>b ==a
 |_=>false
variable {a:String}
def cT (h:tG x a=true):x=some (some (.builtin a)):=by
 unfold tG at h
 split at h
 .rw[beq_iff_eq.mp h]
 .cases h
abbrev MA (x:Option Value)(a:String):Bool:=match x with
 |some (.type b)=>b ==a
 |_=>false
def G2 {x:Option Value}(h:MA x a=true):x=some (.type a):=by
 unfold MA at h
 split at h
 .rw[beq_iff_eq.mp h]
 .cases h
abbrev Bo (x:Option (Option Value)):Bool:=match x with
 |some none=>true
 |_=>false
def pL (h:Bo x=true):x=some none:=by
 unfold Bo at h
 split at h
 .rfl
 .cases h
abbrev D8 (x:Option Bool)(b:Bool):Bool:=match x with
 |some c=>c ==b
 |none=>false
def fT {x:Option Bool}{b:Bool}(h:D8 x b=true):x=some b:=by
 unfold D8 at h
 split at h
 .rw[beq_iff_eq.mp h]
 .cases h
abbrev Mw (v:V)(x:Option (Option Value)):Bool:=match v,x with
 | .int i,some (some (.int j _))=>i ==j
 | .str s,some (some (.str s' _))=>s ==s'
 | .ref a,y=>Eu y a
 |_,_=>false
def HJ {v:V}(h:Mw v x=true):∃ u,x=some (some u)/\RelV v u:=by
 unfold Mw at h
 split at h
 .rw[<-beq_iff_eq.mp h];exact⟨_,rfl,_,rfl⟩
 .rw[<-beq_iff_eq.mp h];exact⟨_,rfl,_,rfl⟩
 .rw[g5 h];exact⟨_,rfl,rfl⟩
 .cases h
section
variable (K:Frag) (C:Addr)
abbrev Dd:Bool:=plainGet K C Str.empty&&(hasDictIn K C&&(plainOver K C&&tG (findIn K (.ref C) "__setattr__") "object.__setattr__"))
def wo {K:Frag}{C:Addr}(h:Dd K C=true):C5 K C:=by
 unfold Dd at h;simp only[ol]at h;exact⟨h.1,h.2.1,h.2.2.1,cT h.2.2.2⟩
abbrev DT:Bool:=tG (findIn K (.ref C) "__class__") "object.__class__"&&(tG (specialIn K (.builtin "object.__class__") "__get__") "getset_descriptor.__get__"&&D8 (takesIn K (.builtin "object.__class__")) true)
abbrev sY:Bool:=MA (typeIn K (.ref C)) "type"&&((clsIn K C).any (λcd=>d8 cd.mro)&&(hasDictIn K C&&(tG (findIn K (.ref C) "__getattribute__") "BaseException.__getattribute__"&&(Bo (findIn K (.ref C) "__getattr__")&&tG (findIn K (.ref C) "__setattr__") "object.__setattr__"))))
def mf {K:Frag}{C:Addr}(h:sY K C=true):c8 K C:=by
 unfold sY at h;simp only[ol]at h;exact⟨G2 h.1,h.2.1,h.2.2.1,cT h.2.2.2.1,pL h.2.2.2.2.1,cT h.2.2.2.2.2⟩
end
abbrev all2 {α:Type}(l:List α)(p:α->Bool):Bool:=match l with
 | []=>true
 |a::r=>p a&&all2 r p
def aG {α:Type}{p:α->Bool}:∀ {l:List α},all2 l p=true->∀ a ∈ l,p a=true
 | [],_,_,h=>by cases h
 |a::r,h,b,hb=>by
  unfold all2 at h;rw[ol]at h;rcases nw.mp hb with rfl|hb
  .exact h.1
  .exact aG h.2 b hb
abbrev HW (K:Frag)(fs cs:List Addr)(gs:List (Str×V)):Rt:=⟨K,λi=>fs.getD i 0,λi=>cs.getD i 0,λx=>gs.lookup x⟩
section
variable (K:Frag) (T:Tab) (fs cs:List Addr) (gs:List (Str×V))
abbrev Cw:Bool:=
 (all2 T.gfn (λp=>Eu (nsIn K mainGlobals p.1) (fs.getD p.2 0)&&(keepIn K (.ref (fs.getD p.2 0))&&(T.fns[p.2]?).isSome))&&
 (all2 T.gcl (λp=>Eu (nsIn K mainGlobals p.1) (cs.getD p.2 0))&&
 (all2 T.gbl (λx=>Bo (nsIn K mainGlobals x)&& !(x ==("__name__":Str)))&&
 (all2 T.gbi (λx=>match nsIn K mainGlobals x with
  |some (some (.ref B))=>tG (specialIn K (.ref B) "__getattribute__") "type.__getattribute__"&&(readsIn K B (.type "type")&&(match findCls K (.ref B) (.type "type") "__init__" with|some (.val (.builtin n))=>n =="ValueError.__init__"|_=>false))
  |_=>false)&&
 (all2 gs (λp=>Mw p.2 (nsIn K mainGlobals p.1))&&
 (all2 T.na (λp=>Bo (findIn K (.ref (cs.getD p.1 0)) p.2))&&
 (all2 T.me (λp=>Dd K (cs.getD p.1.1 0)&&(Eu (findIn K (.ref (cs.getD p.1.1 0)) p.1.2) (fs.getD p.2 0)&&(isFn K (.ref (fs.getD p.2 0))&&(keepIn K (.ref (fs.getD p.2 0))&&(T.fns[p.2]?).isSome)))))))))))&&
 (all2 T.ini0 (λc=>cu K (cs.getD c 0)&&(tG (findIn K (.ref (cs.getD c 0)) "__init__") "ValueError.__init__"&&(keepIn K (.ref (cs.getD c 0))&&sY K (cs.getD c 0))))&&
 (all2 T.inip (λc=>makesIn K (cs.getD c 0)&&(tG (findIn K (.ref (cs.getD c 0)) "__init__") "object.__init__"&&keepIn K (.ref (cs.getD c 0))))&&
 (all2 T.ini (λp=>(T.fns[p.2]?).isSome&&((if T.xc.contains p.1=true then cu K (cs.getD p.1 0) else makesIn K (cs.getD p.1 0))&&(Eu (findIn K (.ref (cs.getD p.1 0)) "__init__") (fs.getD p.2 0)&&(isFn K (.ref (fs.getD p.2 0))&&keepIn K (.ref (cs.getD p.1 0))))))&&
 (all2 T.oc (λc=>Dd K (cs.getD c 0)&&(DT K (cs.getD c 0)&&D8 (mroIn K (cs.getD c 0) (.type "object")) true))&&
 (all2 T.xc (λc=>sY K (cs.getD c 0)&&DT K (cs.getD c 0))&&
 (all2 T.sub (λp=>D8 (kitOne K (.ref (cs.getD p.1.1 0)) (.ref (cs.getD p.1.2 0))) p.2&&(!T.xc.contains p.1.1||(D8 (mroIn K (cs.getD p.1.1 0) (.ref (cs.getD p.1.2 0))) p.2&&sY K (cs.getD p.1.2 0))))&&
 (all2 T.subT (λp=>D8 (kitOne K (.ref (cs.getD p.1.1 0)) (.type p.1.2)) p.2)&&
 (all2 T.subB (λp=>D8 (kitOne K (.type p.1.1) (.type p.1.2)) p.2)&&
 (all2 T.subO (λp=>D8 (kitOne K (.type p.1.1) (.ref (cs.getD p.1.2 0))) p.2)&&
  all2 T.cin (λp=>tG (specialIn K (.ref (cs.getD p.1 0)) "__getattribute__") "type.__getattribute__"&&(readsIn K (cs.getD p.1 0) (.type "type")&&((match findCls K (.ref (cs.getD p.1 0)) (.type "type") "__init__" with|some (.val (.ref f))=>f ==fs.getD p.2 0|_=>false)&&(keepIn K (.ref (fs.getD p.2 0))&&(T.fns[p.2]?).isSome)))))))))))))
end
def kX {α:Type}{x:Option α}(h:x.isSome=true):∃ d,x=some d:=Option.isSome_iff_exists.mp h
variable {K:Frag}{T:Tab}{fs:List Addr}{gs:List (Str×V)}{mg:NX}
def DZ {cs:List Addr}{h:Heap}(X:K.In h)(G:h.Ns mainGlobals mg)(z:Cw K T fs cs gs=true):En K mg T (HW K fs cs gs):=by
 unfold Cw at z;simp only[ol]at z;obtain⟨⟨z1,z2,z3,z4,z5,z6,z7⟩,z8,z9,z10,z11,z12,z13,z14,z15,z16,z17⟩:=z;exact {
  gfn:=lA λp hp=>by
   have:=aG z1 p hp;simp only[ol]at this;exact⟨mg_of X G (g5 this.1),this.2.1,kX this.2.2⟩
  gcl:=lA λp hp=>mg_of X G (g5 (aG z2 p hp))
  gbl:=jz λx hx=>by
   have:=aG z3 x hx;simp only[ol]at this;exact⟨mg_none_of X G (pL this.1),by simpa using this.2⟩
  gbi:=jz λx hx=>by
   have:=aG z4 x hx
   split at this
   .rename_i B e;simp only[ol]at this;refine⟨B,mg_of X G e,cT this.1,this.2.1,?_⟩;have t:=this.2.2
    split at t
    .rename_i n e2;rw[e2,beq_iff_eq.mp t]
    .cases t
   .cases this
  gl:=lA λp hp=>by
   obtain⟨u,e,r⟩:=HJ (aG z5 p hp);exact⟨u,mg_of X G e,r⟩
  na:=D0 λp hp=>pL (aG z6 p hp)
  me:=iL λp hp=>by
   have:=aG z7 p hp;simp only[ol]at this;exact⟨wo this.1,⟨g5 this.2.1,this.2.2.1,this.2.2.2.1⟩,kX this.2.2.2.2⟩
  ini0:=jz λc hc=>by
   have:=aG z8 c hc;simp only[ol]at this;exact⟨this.1,cT this.2.1,this.2.2.1,mf this.2.2.2⟩
  inip:=jz λc hc=>by
   have:=aG z9 c hc;simp only[ol]at this;exact⟨this.1,cT this.2.1,this.2.2⟩
  ini:=lA λp hp=>by
   have:=aG z10 p hp;simp only[ol]at this;refine⟨kX this.1,?_⟩;have t:=this.2
   by_cases e:T.xc.contains p.1=true
   .rw[if_pos e]at t⊢;exact⟨t.1,g5 t.2.1,t.2.2.1,t.2.2.2⟩
   .rw[if_neg e]at t⊢;exact⟨t.1,g5 t.2.1,t.2.2.1,t.2.2.2⟩
  oc:=jz λc hc=>by
   have:=aG z11 c hc;simp only[DT,ol]at this;exact⟨wo this.1,cT this.2.1.1,cT this.2.1.2.1,fT this.2.1.2.2,fT this.2.2⟩
  xc:=jz λc hc=>by
   have:=aG z12 c hc;simp only[DT,ol]at this;exact⟨mf this.1,cT this.2.1,cT this.2.2.1,fT this.2.2.2⟩
  sub:=iL λp hp=>by
   have:=aG z13 p hp;simp only[ol]at this;refine⟨fT this.1,λe=>?_⟩;have t:=this.2;rw[e,Bool.not_true,Bool.false_or,ol]at t;exact⟨fT t.1,mf t.2⟩
  subT:=iL λp hp=>fT (aG z14 p hp)
  subB:=iL λp hp=>fT (aG z15 p hp)
  subO:=iL λp hp=>fT (aG z16 p hp)
  cin:=lA λp hp=>by
   have:=aG z17 p hp;simp only[ol]at this;refine⟨⟨cT this.1,this.2.1,?_,this.2.2.2.1⟩,kX this.2.2.2.2⟩;have t:=this.2.2.1
   split at t
   .rename_i f e2;rw[beq_iff_eq.mp t]at e2;exact e2
   .cases t }
abbrev Lv:List Str->Bool
 | []=>true
 |a::r=>!r.contains a&&Lv r
def yN:∀ {l:List Str},Lv l=true->l.Nodup
 | [],_=>List.nodup_nil
 |a::r,h=>by
  unfold Lv at h;rw[ol]at h;exact nodup_cons.mpr ⟨by simpa using h.1,yN h.2⟩
abbrev MI (N P:List Str)(sc:Scope):Bool:=decide (sc.kind=.function)&&(!sc.isCoroutine&&(!sc.isGenerator&&(Lv N&&(N.take P.length ==P&&(all2 P (λx=>match sc.names.lookup x with|some .local=>true|some .cell=>true|_=>false)&&all2 sc.names (λy=>match y.2 with| .free=>false|_=>true))))))
def vf {N P:List Str}{sc:Scope}(h:MI N P sc=true):kS N P sc:=by
 unfold MI at h;simp only[ol,decide_eq_true_eq]at h;refine⟨h.1,by simpa using h.2.1,by simpa using h.2.2.1,yN h.2.2.2.1,beq_iff_eq.mp h.2.2.2.2.1,λx hx=>?_,λy hy e=>?_⟩
 .have:=aG h.2.2.2.2.2.1 x hx
  split at this
  .rename_i e;exact .inl e
  .rename_i e;exact .inr e
  .cases this
 .have:=aG h.2.2.2.2.2.2 y hy;rw[e]at this;cases this
abbrev LB:V->Value->Bool
 | .non,.none=>true
 | .bl b,.bool c=>b ==c
 | .int i,.int j _=>i ==j
 | .str s,.str s' _=>s ==s'
 |_,_=>false
def HK {v:V}{u:Value}(h:LB v u=true):RelV v u:=by
 unfold LB at h
 split at h
 .rfl
 .rw[beq_iff_eq.mp h];rfl
 .rw[beq_iff_eq.mp h];exact⟨_,rfl⟩
 .rw[beq_iff_eq.mp h];exact⟨_,rfl⟩
 .cases h
abbrev AZ:List V->List Value->Bool
 | [],[]=>true
 |v::vs,u::us=>LB v u&&AZ vs us
 |_,_=>false
def qE:∀ {vs:List V}{us:List Value},AZ vs us=true->Vals vs us
 | [],[],_=>.nil
 |v::vs,u::us,h=>by
  unfold AZ at h;rw[ol]at h;exact .cons (HK h.1) (qE h.2)
 | [],_::_,h=>by cases h
 |_::_,[],h=>by cases h
abbrev LR (K:Frag)(fd:FuncData)(d:ay):Bool:=match fd.defaults with
 | .none=>d.dfl.isEmpty
 | .ref T=>!d.dfl.isEmpty&&(match K.lookup T with
  |some o=>(match o.data with| .seq items _=>AZ d.dfl items.toList&&decide (items.toList.length<=d.ps.length)|_=>false)
  |none=>false)
 |_=>false
abbrev EY (K:Frag)(T:Tab)(f:Addr)(d:ay):Bool:=match K.lookup f with
 |some ⟨_,_,.func fd,_⟩=>(match fd.body with
  | .stmts body=>decide (fd.globals=mainGlobals)&&(fd.closure.isEmpty&&(decide (fd.builtins=builtinsNs)&&(codeIn K fd.code fd.qualname&&(MI d.N d.ps fd.scope&&(mB ⟨T,fd.scope,d.N⟩ d.body body&&
   (fd.params.posonlyargs.isEmpty&&(fd.params.args.map (·.arg) ==d.ps&&(fd.params.kwonlyargs.isEmpty&&(fd.params.vararg.isNone&&(fd.params.kwarg.isNone&&LR K fd d))))))))))
  |_=>false)
 |_=>false
variable {d:ay}
def Ft {f:Addr}(h:EY K T f d=true):xf K T f d:=by
 unfold EY at h
 split at h
 .rename_i oc od fd sl e;obtain⟨name,qual,params,body,scope,glo,bU,dV,kV,doc,pm,an,cdv,ct,bu⟩:=fd;dsimp only at h
  split at h
  .rename_i body;simp only[ol,decide_eq_true_eq,isEmpty_iff,Option.isNone_iff_eq_none]at h;obtain⟨h1,h2,h3,h4,h5,h6,h7,h8,h9,h10,h11,h12⟩:=h;subst h1 h2 h3;have S:=vf h5;have nd:d.ps.Nodup:=by
    rw[<-S.pre];exact S.nd.sublist (take_sublist _ _)
   refine⟨⟨name,qual,params,body,scope,dV,kV,doc,pm,cdv,ct,oc,od,an,sl,e,h4,S,h6,?_⟩⟩;unfold LR at h12;dsimp only at h12
   split at h12
   .rw[isEmpty_iff.mp h12];exact FX (.all λus hl=>qJ nd h7 (beq_iff_eq.mp h8) h9 h10 h11 rfl us hl)
   .rename_i T0;rw[ol]at h12;have h12:=h12.2
    split at h12
    .rename_i o ho
     split at h12
     .rename_i items c hs;rw[ol,decide_eq_true_eq]at h12;intro j;refine⟨items.toList.drop j,?_,nZ j (qE h12.1)⟩;refine C6 (n:=d.ps.length-(items.toList.drop j).length) rfl ho hs (by rw[jp];omega) λus hl=>?_
      rw[jp]at hl;obtain⟨k,k1,k2⟩:=Bh (fd:=fnOf name qual params body scope (.ref T0) kV doc pm an cdv ct) (items:=items) nd h7 (beq_iff_eq.mp h8) h9 h10 h11 rfl us nofun h12.2 nofun;refine⟨k,k1,?_⟩;rw[k2]
      by_cases e:j<=items.toList.length
      .rw[show us.length+items.toList.length-d.ps.length=j by omega]
      .rw[show us.length+items.toList.length-d.ps.length=items.toList.length by omega,drop_length,List.drop_eq_nil_of_le (by omega:items.toList.length<=j)]
     .cases h12
    .cases h12
   .cases h12
  .cases h
 .cases h
abbrev nB (K:Frag)(T:Tab)(fs:List Addr):Nat->List ay->Bool
 |_,[]=>true
 |n,d::r=>EY K T (fs.getD n 0) d&&nB K T fs (n+1) r
def vD {K:Frag}{T:Tab}{fs:List Addr}:∀ {l:List ay}{n:Nat},nB K T fs n l=true->vO (λf d=>xf K T (fs.getD f 0) d) n l
 | [],_,_=>True.intro
 |d::r,n,h=>by
  unfold nB at h;rw[ol]at h;exact⟨Ft h.1,vD h.2⟩
def Ds (h:nB K T fs 0 T.fns=true):∀ f d,T.fns[f]? =some d->xf K T (fs.getD f 0) d:=tH (P:=λf d=>xf K T (fs.getD f 0) d) (vD h)
def v9 {K:Frag}{T:Tab}{fs:List Addr}:∀ {l:List ay}{n f:Nat}{d:ay},nB K T fs n l=true->l[f]? =some d->EY K T (fs.getD (n+f) 0) d=true
 | [],_,_,_,_,e=>by simp at e
 |a::r,n,0,d,h,e=>by
  unfold nB at h;rw[ol]at h;have:a=d:=by simpa using e
  subst this;exact h.1
 |a::r,n,f+1,d,h,e=>by
  unfold nB at h;rw[ol]at h;have:=v9 h.2 (f:=f) (d:=d) (by simpa using e)
  rwa [Nat.add_assoc,Nat.add_comm 1 f]at this
def Di {fl:Nat}(z:nB K T fs 0 T.fns=true)(hd:T.fns[fl]? =some d)(hp:d.ps=[("_law_script":Str)]) (hf:d.dfl=[]):
  ∃ oc od fd sl,K.lookup (fs.getD fl 0)=some ⟨oc,od,.func fd,sl⟩/\∀ (s:Shared) (v:Value),BindsTo s fd ⟨[v],[]⟩ [("_law_script",v)]:=by
 have h:=v9 z hd;rw[Nat.zero_add]at h;unfold EY at h
 split at h
 .rename_i oc od fd sl e;refine⟨oc,od,fd,sl,e,λs v=>?_⟩
  split at h
  .rename_i body hb;simp only[ol,decide_eq_true_eq,isEmpty_iff,Option.isNone_iff_eq_none]at h;obtain⟨h1,h2,h3,h4,h5,h6,h7,h8,h9,h10,h11,h12⟩:=h;have nd:d.ps.Nodup:=by
    rw[<-(vf h5).pre];exact(vf h5).nd.sublist (take_sublist _ _)
   unfold LR at h12;rw[hf]at h12;have e6:fd.defaults=.none:=by
    split at h12
    .rename_i e;exact e
    .rw[ol]at h12;cases h12.1
    .cases h12
   have:=qJ nd h7 (beq_iff_eq.mp h8) h9 h10 h11 e6 [v] (by rw[hp];rfl);rw[hp]at this;exact .of_eq this
  .cases h
 .cases h
def Co {P:Program}{w:World}{h:Heap}{fa:Addr}{cs:List Addr}{fl k:Nat}(X:K.In h)(G:h.Ns mainGlobals mg)(hfa:mg "law"=some (.ref fa))
  (z1:Cw K T fs cs gs=true) (z2:nB K T fs 0 T.fns=true) (z3:Eu (nsIn K mainGlobals "law") (fs.getD fl 0)=true) (hd:T.fns[fl]? =some d) (hp:d.ps=[("_law_script":Str)]) (hf:d.dfl=[])
  (ht:∀ vs H Q E,jK K 63 vs H Q E->ae T (HW K fs cs gs) k fl vs H Q E):
  ∃ fd:FuncData,(∀ (s:Shared) (v:Value),BindsTo s fd ⟨[v],[]⟩ [("_law_script",v)])/\∀ base:Heap,K.In base->base.Ns mainGlobals mg->dr P w K mg base (Bg P w) (2*k) fa fd ["_law_script"] (jK K 63):=by
 have e0:fs.getD fl 0=fa:=by
  have e:=hfa.symm.trans (mg_of X G (g5 z3))
  injection e with e
  injection e with e
  exact e.symm
 have fn:=Ds z2;have tk:=DZ X G z1;have N:=fn fl d hd;have hN:=Di z2 hd;obtain⟨oc,od,fd,sl,e,hb⟩:=hN hp hf;refine⟨fd,hb,λbase hb hg=>?_⟩;have F:=Fn (P:=P) (w:=w) (base:=base) (R:=HW K fs cs gs) tk rfl fn k fl d hd (fd:=fd) (lk:=e) (sW▸ht);rw[hp]at F;rw[<-e0];exact F
abbrev Nh (K:Frag)(a:Addr)(vs:List V):Bool:=match K.lookup a with
 |some ⟨.type t,_,.seq items _,_⟩=>t =="tuple"&&(decide (items.size<=1000)&&AZ vs items.toList)
 |_=>false
def Ax {a:Addr}{vs:List V}(h:Nh K a vs=true)(H:Hp):bp K H a vs:=by
 unfold Nh at h
 split at h
 .rename_i t od items n sl e;simp only[ol,decide_eq_true_eq]at h;refine .inr ⟨_,items,n,e,?_,rfl,?_,qE h.2.2⟩
  .show Value.type t=_;rw[beq_iff_eq.mp h.1]
  .exact Nat.le_of_lt (dD h.2.1)
 .cases h
end L3
namespace L3
open PySem L2
noncomputable abbrev gN.c (e:Ex)(r:gN):gN:=.cons e r
noncomputable abbrev gN.n:gN:=.nil
noncomputable abbrev lV.c (e:Sx)(r:lV):lV:=.cons e r
noncomputable abbrev lV.n:lV:=.nil
noncomputable abbrev B1.c (a b:Nat)(e:lV)(r:B1):B1:=.cons a b e r
noncomputable abbrev B1.n:B1:=.nil
noncomputable abbrev Ex.i (x:Int):Ex:=.int x
noncomputable abbrev Ex.s (x:Str):Ex:=.str x
noncomputable abbrev Ex.k (x:Nat)(e:gN):Ex:=.call x e
noncomputable abbrev Ex.m (a:Ex)(x:Str)(e:gN):Ex:=.meth a x e
noncomputable abbrev Ex.f (c:Tx)(a b:Ex):Ex:=.ife c a b
noncomputable abbrev Ex.q (o:CmpOp)(a b:Ex):Ex:=.cmp o a b
noncomputable abbrev Tx.q (o:CmpOp)(a b:Ex):Tx:=.cmp o a b
noncomputable abbrev Sx.a (x:Nat)(e:Ex):Sx:=.asg x e
noncomputable abbrev Sx.r (e:Ex):Sx:=.ret e
noncomputable abbrev Sx.f (c:Tx)(a b:lV):Sx:=.ife c a b
noncomputable abbrev Sx.e (e:Ex):Sx:=.expr e
end L3
set_option Elab.async false
set_option maxHeartbeats 8000000
open PySem PySem.Spec L2 L3
namespace My
open PySem L2 L3
set_option hygiene false
local macro_rules|`(#[])=>`(.n)|`(#[$x:term])=>`(.c $x .n)|`(#[$x:term,$xs:term,*])=>`(.c $x #[$xs,*])
set_option hygiene true
abbrev cM:ay:=⟨["self","at"],["self","at"],[],#[.e (.bini #[.v 0,.s "no list of 1 to 60 contents"]),.fld (.v 0) "at" (.v 1)]⟩
abbrev cV:ay:=⟨["self","low","behind","word"],["self","low","behind","word"],[],#[.e (.bini #[.v 0,.s "no stretch of the store, or no word for a leave"]),.fld (.v 0) "low" (.v 1),.fld (.v 0) "behind" (.v 2),.fld (.v 0) "word" (.v 3)]⟩
abbrev eC:ay:=⟨["self","deed","cell"],["self","deed","cell"],[],#[.e (.bini #[.v 0,.s "a cell that is not there, or may not be looked at or put"]),.fld (.v 0) "deed" (.v 1),.fld (.v 0) "cell" (.v 2)]⟩
abbrev dP:ay:=⟨["self","box","number"],["self","box","number"],[],#[.e (.bini #[.v 0,.s "a box can't hold this"]),.fld (.v 0) "box" (.v 1),.fld (.v 0) "number" (.v 2)]⟩
abbrev jc:ay:=⟨["self","box"],["self","box"],[],#[.e (.bini #[.v 0,.s "no box of that name"]),.fld (.v 0) "box" (.v 1)]⟩
abbrev iu:ay:=⟨["self","word"],["self","word"],[],#[.e (.bini #[.v 0,.s "a deed can't be made of this"]),.fld (.v 0) "word" (.v 1)]⟩
abbrev iw:ay:=⟨["self","at"],["self","at"],[],#[.e (.bini #[.v 0,.s "no list of 1 to 24 deeds"]),.fld (.v 0) "at" (.v 1)]⟩
abbrev gT:ay:=⟨["self","at"],["self","at"],[],#[.e (.bini #[.v 0,.s "no place to stand at"]),.fld (.v 0) "at" (.v 1)]⟩
abbrev i4:ay:=⟨["self","many"],["self","many"],[],#[.e (.bini #[.v 0,.s "not so many steps to take back"]),.fld (.v 0) "many" (.v 1)]⟩
abbrev lj:ay:=⟨["thing"],["thing"],[],#[.r (.and (.isi (.v 0) (.ty "int")) (.not (.isi (.v 0) (.ty "bool"))))]⟩
abbrev iA:ay:=⟨["thing"],["thing"],[],#[.r (.and (.k 9 #[.v 0]) (.cmp2 .LtE .LtE (.i 0) (.v 0) (.gl "BOUND")))]⟩
abbrev k9:ay:=⟨["thing"],["thing"],[],#[.r (.and (.isi (.v 0) (.ty "str")) (.q .In (.v 0) (.gl "NAMES")))]⟩
abbrev ke:ay:=⟨["thing"],["thing"],[],#[.r (.and (.k 9 #[.v 0]) (.cmp2 .LtE .LtE (.neg (.gl "BOUND")) (.v 0) (.gl "BOUND")))]⟩
abbrev zA:ay:=⟨["box","thing"],["box","thing"],[],#[.f (.or (.q .Eq (.v 0) (.s "here")) (.q .Eq (.v 0) (.s "there"))) #[.r (.k 12 #[.v 1])] .n,.f (.q .Eq (.v 0) (.s "way")) #[.r (.and (.k 9 #[.v 1]) (.or (.q .Eq (.v 1) (.i 1)) (.q .Eq (.v 1) (.neg (.i 1)))))] .n,.f (.q .Eq (.v 0) (.s "met")) #[.r (.and (.k 9 #[.v 1]) (.or (.q .Eq (.v 1) (.i 0)) (.q .Eq (.v 1) (.i 1))))] .n,.r (.k 10 #[.v 1])]⟩
abbrev dA:ay:=⟨["self","here","there","left","way","sign","met"],["self","here","there","left","way","sign","met","handed","box","number"],[.int 0,.int 0,.int 0,.int 1,.int 0,.int 0],#[.a 7 (.tup #[.v 1,.v 2,.v 3,.v 4,.v 5,.v 6]),.for (.tp [8,9]) (.zip (.gl "NAMES") (.v 7)) #[.f (.not (.val (.k 13 #[.v 8,.v 9]))) #[.rais (.make 4 #[.v 8,.v 9])] .n],.fld (.v 0) "numbers" (.dzip (.gl "NAMES") (.v 7))]⟩
abbrev gz:ay:=⟨["self","box"],["self","box"],[],#[.f (.not (.val (.k 11 #[.v 1]))) #[.rais (.make 5 #[.v 1])] .n,.r (.ix (.fld (.v 0) "numbers") (.v 1))]⟩
abbrev dY:ay:=⟨["self","box","number"],["self","box","number"],[],#[.f (.not (.val (.k 11 #[.v 1]))) #[.rais (.make 5 #[.v 1])] .n,.f (.not (.val (.k 13 #[.v 1,.v 2]))) #[.rais (.make 4 #[.v 1,.v 2])] .n,.sub (.fld (.v 0) "numbers") (.v 1) (.v 2)]⟩
abbrev iS:ay:=⟨["self"],["self"],[],#[.r (.bf .tuple #[.lc (.ix (.fld (.v 1) "numbers") (.v 0)) [0] (.seq (.gl "NAMES"))])]⟩
abbrev eT:ay:=⟨["self"],["self","other"],[],#[.a 1 (.make 10 .n),.fld (.v 1) "numbers" (.bf .dict #[.fld (.v 0) "numbers"]),.r (.v 1)]⟩
abbrev mM:ay:=⟨["numbers"],["numbers"],[],#[.r (.make 10 #[.ix (.v 0) (.i 0),.ix (.v 0) (.i 1),.ix (.v 0) (.i 2),.ix (.v 0) (.i 3),.ix (.v 0) (.i 4),.ix (.v 0) (.i 5)])]⟩
abbrev jW:ay:=⟨["word","box"],["word","box"],[],#[.f (.not (.val (.k 11 #[.v 1]))) #[.rais (.make 6 #[.v 0])] .n]⟩
abbrev fJ:ay:=⟨["word","number"],["word","number"],[],#[.f (.not (.val (.k 12 #[.v 1]))) #[.rais (.make 6 #[.v 0])] .n]⟩
abbrev fk:ay:=⟨["self","box","number"],["self","box","number"],[],#[.e (.k 20 #[.s "set",.v 1]),.e (.k 21 #[.s "set",.v 2]),.fld (.v 0) "box" (.v 1),.fld (.v 0) "number" (.v 2)]⟩
abbrev lr:ay:=⟨["self","boxes","store"],["self","boxes","store"],[],#[.e (.m (.v 1) "give" #[.fld (.v 0) "box",.fld (.v 0) "number"]),.r (.i 1)]⟩
abbrev rp:ay:=⟨["self"],["self"],[],#[.r (.lst #[.s "set",.fld (.v 0) "box",.bf .str #[.fld (.v 0) "number"]])]⟩
abbrev fz:ay:=⟨["self","box","number"],["self","box","number"],[],#[.e (.k 20 #[.s "add",.v 1]),.e (.k 21 #[.s "add",.v 2]),.fld (.v 0) "box" (.v 1),.fld (.v 0) "number" (.v 2)]⟩
abbrev md:ay:=⟨["self","boxes","store"],["self","boxes","store"],[],#[.e (.m (.v 1) "give" #[.fld (.v 0) "box",.bin .Add (.m (.v 1) "holds" #[.fld (.v 0) "box"]) (.fld (.v 0) "number")]),.r (.i 1)]⟩
abbrev sx:ay:=⟨["self"],["self"],[],#[.r (.lst #[.s "add",.fld (.v 0) "box",.bf .str #[.fld (.v 0) "number"]])]⟩
abbrev eJ:ay:=⟨["self","box","other"],["self","box","other"],[],#[.e (.k 20 #[.s "take",.v 1]),.e (.k 20 #[.s "take",.v 2]),.fld (.v 0) "box" (.v 1),.fld (.v 0) "other" (.v 2)]⟩
abbrev kx:ay:=⟨["self","boxes","store"],["self","boxes","store"],[],#[.e (.m (.v 1) "give" #[.fld (.v 0) "box",.m (.v 1) "holds" #[.fld (.v 0) "other"]]),.r (.i 1)]⟩
abbrev qp:ay:=⟨["self"],["self"],[],#[.r (.lst #[.s "take",.fld (.v 0) "box",.fld (.v 0) "other"])]⟩
abbrev eD:ay:=⟨["self","box"],["self","box"],[],#[.e (.k 20 #[.s "read",.v 1]),.fld (.v 0) "box" (.v 1)]⟩
abbrev jS:ay:=⟨["self","boxes","store"],["self","boxes","store"],[],#[.e (.m (.v 1) "give" #[.fld (.v 0) "box",.m (.v 2) "look" #[.m (.v 1) "holds" #[.s "here"]]]),.r (.i 1)]⟩
abbrev qo:ay:=⟨["self"],["self"],[],#[.r (.lst #[.s "read",.fld (.v 0) "box"])]⟩
abbrev dH:ay:=⟨["self","box"],["self","box"],[],#[.e (.k 20 #[.s "write",.v 1]),.fld (.v 0) "box" (.v 1)]⟩
abbrev iX:ay:=⟨["self","boxes","store"],["self","boxes","store","number"],[],#[.a 3 (.m (.v 1) "holds" #[.fld (.v 0) "box"]),.f (.not (.val (.k 10 #[.v 3]))) #[.rais (.make 4 #[.fld (.v 0) "box",.v 3])] .n,.e (.m (.v 2) "put" #[.m (.v 1) "holds" #[.s "there"],.v 3]),.r (.i 1)]⟩
abbrev mZ:ay:=⟨["self"],["self"],[],#[.r (.lst #[.s "write",.fld (.v 0) "box"])]⟩
abbrev iK:ay:=⟨["rows"],["rows","at","thing"],[],#[.f (.or (.not (.val (.isi (.v 0) (.ty "list")))) (.not (.cmp2 .LtE .LtE (.i 1) (.bf .len #[.v 0]) (.gl "MOST_ROWS")))) #[.rais (.make 7 #[.neg (.i 1)])] .n,.for (.tp [1,2]) (.enm (.v 0)) #[.f (.not (.val (.isi (.v 2) (.own 11)))) #[.rais (.make 7 #[.v 1])] .n]]⟩
abbrev gw:ay:=⟨["at","many"],["at","many"],[],#[.f (.or (.not (.val (.k 9 #[.v 0]))) (.not (.cmp2 .LtE .LtE (.i 0) (.v 0) (.v 1)))) #[.rais (.make 8 #[.v 0])] .n]⟩
abbrev vV:ay:=⟨["deed","boxes","store"],["deed","boxes","store","stop","refusal"],[],#[.tryx #[.r (.tup #[.m (.v 0) "step" #[.v 1,.v 2],.non])] (.c 3 3 #[.r (.tup #[.non,.tup #[.fld (.v 3) "deed",.fld (.v 3) "cell"]])] (.c 4 4 #[.r (.tup #[.non,.tup #[.s "fit",.fld (.v 4) "box"]])] .n))]⟩
abbrev cQ:ay:=⟨["self","rows","store","boxes","at"],["self","rows","store","boxes","at"],[.int 0],#[.e (.k 37 #[.v 1]),.e (.k 38 #[.v 4,.bf .len #[.v 1]]),.fld (.v 0) "deeds" (.bf .list #[.v 1]),.fld (.v 0) "store" (.m (.v 2) "copied" .n),.fld (.v 0) "boxes" (.m (.v 3) "copied" .n),.fld (.v 0) "at" (.v 4)]⟩
abbrev eB:ay:=⟨["self"],["self"],[],#[.r (.q .Eq (.fld (.v 0) "at") (.bf .len #[.fld (.v 0) "deeds"]))]⟩
abbrev dg:ay:=⟨["self","store"],["self","store","by"],[],#[.f (.val (.m (.v 0) "ended" .n)) #[.r (.s "end")] .n,.a 2 (.ix (.k 39 #[.ix (.fld (.v 0) "deeds") (.fld (.v 0) "at"),.fld (.v 0) "boxes",.v 1]) (.i 0)),.f (.q .Is (.v 2) .non) #[.r (.s "stop")] .n,.fld (.v 0) "at" (.bf .min #[.bin .Add (.fld (.v 0) "at") (.v 2),.bf .len #[.fld (.v 0) "deeds"]]),.r (.s "on")]⟩
abbrev mq:ay:=⟨["self"],["self"],[],#[.r (.m (.v 0) "step_on" #[.fld (.v 0) "store"])]⟩
abbrev eE:ay:=⟨["self"],["self"],[],#[.r (.tup #[.fld (.v 0) "at",.m (.fld (.v 0) "boxes") "told" .n,.m (.fld (.v 0) "store") "told" .n])]⟩
abbrev dF:ay:=⟨["self"],["self"],[],#[.r (.m (.fld (.v 0) "store") "leaves" .n)]⟩
abbrev kC:ay:=⟨["self","low","behind","word"],["self","low","behind","word"],[],#[.e (.m (.fld (.v 0) "store") "leave" #[.v 1,.v 2,.v 3])]⟩
abbrev lK:ay:=⟨["self"],["self"],[],#[.r (.lc (.m (.v 0) "words" .n) [] (.seq (.fld (.v 0) "deeds")))]⟩
abbrev je:ay:=⟨["self"],["self"],[],#[.r (.make 17 #[.fld (.v 0) "deeds",.fld (.v 0) "store",.fld (.v 0) "boxes",.fld (.v 0) "at"])]⟩
abbrev dz:ay:=⟨["self","store"],["self","store"],[],#[.fld (.v 0) "store" (.v 1),.fld (.v 0) "before" (.m (.v 1) "told" .n),.fld (.v 0) "changes" (.lst .n)]⟩
abbrev jG:ay:=⟨["self","deed","cell"],["self","deed","cell"],[],#[.r (.m (.fld (.v 0) "store") "may" #[.v 1,.v 2])]⟩
abbrev i8:ay:=⟨["self","cell"],["self","cell"],[],#[.r (.m (.fld (.v 0) "store") "look" #[.v 1])]⟩
abbrev j5:ay:=⟨["self","cell","content"],["self","cell","content"],[],#[.e (.m (.fld (.v 0) "store") "put" #[.v 1,.v 2]),.e (.lm .append (.fld (.v 0) "changes") #[.tup #[.v 1,.ix (.fld (.v 0) "before") (.v 1),.v 2]])]⟩
abbrev cP:ay:=⟨["self","rows","store","boxes","at"],["self","rows","store","boxes","at"],[.int 0],#[.e (.cini 17 #[.v 0,.v 1,.v 2,.v 3,.v 4]),.fld (.v 0) "entries" (.lst .n)]⟩
abbrev fL:ay:=⟨["self"],["self","row","ahead","noted","word"],[],#[.a 1 (.fld (.v 0) "at"),.a 2 (.m (.fld (.v 0) "boxes") "told" .n),.a 3 (.make 18 #[.fld (.v 0) "store"]),.a 4 (.m (.v 0) "step_on" #[.v 3]),.f (.q .Eq (.v 4) (.s "on")) #[.e (.lm .append (.fld (.v 0) "entries") #[.tup #[.v 1,.v 2,.fld (.v 3) "changes"]])] .n,.r (.v 4)]⟩
abbrev gE:ay:=⟨["self"],["self"],[],#[.r (.lct (.tup #[.v 0,.v 1,.bf .list #[.v 2]]) 3 [] (.seq (.fld (.v 0) "entries")))]⟩
abbrev fv:ay:=⟨["self","many"],["self","many","turn"],[],#[.f (.or (.not (.val (.k 9 #[.v 1]))) (.not (.cmp2 .LtE .LtE (.i 0) (.v 1) (.bf .len #[.fld (.v 0) "entries"])))) #[.rais (.make 9 #[.v 1])] .n,.for (.nm 2) (.rng1 (.v 1)) #[.e (.m (.v 0) "undo" #[.lm .pop (.fld (.v 0) "entries") .n])]]⟩
abbrev fB:ay:=⟨["self","entry"],["self","entry","change"],[],#[.for (.nm 2) (.seq (.ix (.v 1) (.i 2))) #[.e (.m (.fld (.v 0) "store") "restore" #[.ix (.v 2) (.i 0),.ix (.v 2) (.i 1)])],.fld (.v 0) "boxes" (.k 19 #[.ix (.v 1) (.i 1)]),.fld (.v 0) "at" (.ix (.v 1) (.i 0))]⟩
abbrev dM:ay:=⟨["self"],["self","other"],[],#[.a 1 (.make 19 #[.fld (.v 0) "deeds",.fld (.v 0) "store",.fld (.v 0) "boxes",.fld (.v 0) "at"]),.fld (.v 1) "entries" (.m (.v 0) "log" .n),.r (.v 1)]⟩
abbrev nR:ay:=⟨["thing"],["thing"],[],#[.r (.and (.k 9 #[.v 0]) (.cmp2 .LtE .LtE (.i 0) (.v 0) (.gl "MOST_HOPPED")))]⟩
abbrev vX:ay:=⟨["thing"],["thing"],[],#[.r (.or (.q .Is (.v 0) .non) (.and (.k 9 #[.v 0]) (.or (.q .Eq (.v 0) (.i 0)) (.q .Eq (.v 0) (.i 1)))))]⟩
abbrev eY:ay:=⟨["self","many","on"],["self","many","on"],[.non],#[.f (.or (.not (.val (.k 59 #[.v 1]))) (.not (.val (.k 60 #[.v 2])))) #[.rais (.make 6 #[.s "hop"])] .n,.fld (.v 0) "many" (.v 1),.fld (.v 0) "on" (.v 2)]⟩
abbrev mD:ay:=⟨["self","boxes","store"],["self","boxes","store"],[],#[.f (.or (.q .Is (.fld (.v 0) "on") .non) (.q .Eq (.fld (.v 0) "on") (.m (.v 1) "holds" #[.s "met"]))) #[.r (.bin .Add (.i 1) (.fld (.v 0) "many"))] .n,.r (.i 1)]⟩
abbrev rB:ay:=⟨["self"],["self","told"],[],#[.a 1 (.lst #[.s "hop",.bf .str #[.fld (.v 0) "many"]]),.f (.q .IsNot (.fld (.v 0) "on") .non) #[.e (.lm .extend (.v 1) #[.lst #[.s "if",.bf .str #[.fld (.v 0) "on"]]])] .n,.r (.v 1)]⟩
abbrev qe:ay:=⟨["boxes","box","by"],["boxes","box","by"],[],#[.e (.m (.v 0) "give" #[.v 1,.bin .Add (.m (.v 0) "holds" #[.v 1]) (.v 2)])]⟩
abbrev fE:ay:=⟨["boxes","box"],["boxes","box"],[],#[.e (.k 64 #[.v 0,.v 1,.m (.v 0) "holds" #[.s "way"]])]⟩
abbrev ku:ay:=⟨["boxes","by"],["boxes","by"],[],#[.e (.k 64 #[.v 0,.s "left",.neg (.v 1)]),.r (.f (.q .Eq (.m (.v 0) "holds" #[.s "left"]) (.i 0)) (.i 1) (.i 0))]⟩
abbrev oO:ay:=⟨["store","cell"],["store","cell"],[],#[.f (.not (.val (.m (.v 0) "may" #[.s "put",.v 1]))) #[.rais (.make 3 #[.s "put",.v 1])] .n]⟩
abbrev BP:ay:=⟨["store","source","target"],["store","source","target","content"],[],#[.a 3 (.m (.v 0) "look" #[.v 1]),.e (.m (.v 0) "put" #[.v 2,.v 3])]⟩
abbrev lW:ay:=⟨["store","one","other"],["store","one","other","first","second"],[],#[.a 3 (.m (.v 0) "look" #[.v 1]),.a 4 (.m (.v 0) "look" #[.v 2]),.e (.k 67 #[.v 0,.v 1]),.e (.k 67 #[.v 0,.v 2]),.e (.m (.v 0) "put" #[.v 1,.v 4]),.e (.m (.v 0) "put" #[.v 2,.v 3])]⟩
abbrev j4:ay:=⟨["self","boxes","store"],["self","boxes","store"],[],#[.f (.q .Eq (.m (.v 1) "holds" #[.s "left"]) (.i 0)) #[.r (.i 1)] .n,.e (.k 68 #[.v 2,.m (.v 1) "holds" #[.s "here"],.m (.v 1) "holds" #[.s "there"]]),.e (.k 65 #[.v 1,.s "here"]),.e (.k 65 #[.v 1,.s "there"]),.r (.k 66 #[.v 1,.i 1])]⟩
abbrev pW:ay:=⟨["self"],["self"],[],#[.r (.lst #[.s "copy"])]⟩
abbrev jU:ay:=⟨["self","boxes","store"],["self","boxes","store"],[],#[.f (.q .Eq (.m (.v 1) "holds" #[.s "left"]) (.i 0)) #[.r (.i 1)] .n,.e (.m (.v 2) "put" #[.m (.v 1) "holds" #[.s "there"],.m (.v 1) "holds" #[.s "sign"]]),.e (.k 65 #[.v 1,.s "there"]),.r (.k 66 #[.v 1,.i 1])]⟩
abbrev pO:ay:=⟨["self"],["self"],[],#[.r (.lst #[.s "fill"])]⟩
abbrev kg:ay:=⟨["self","boxes","store"],["self","boxes","store"],[],#[.f (.q .Eq (.m (.v 1) "holds" #[.s "left"]) (.i 0)) #[.e (.m (.v 1) "give" #[.s "met",.i 0]),.r (.i 1)] .n,.f (.q .Eq (.m (.v 2) "look" #[.m (.v 1) "holds" #[.s "here"]]) (.m (.v 1) "holds" #[.s "sign"])) #[.e (.m (.v 1) "give" #[.s "met",.i 1]),.r (.i 1)] .n,.e (.m (.v 1) "give" #[.s "met",.i 0]),.e (.k 65 #[.v 1,.s "here"]),.r (.k 66 #[.v 1,.i 1])]⟩
abbrev qj:ay:=⟨["self"],["self"],[],#[.r (.lst #[.s "seek"])]⟩
abbrev i7:ay:=⟨["self","boxes","store"],["self","boxes","store","content"],[],#[.f (.q .Eq (.m (.v 1) "holds" #[.s "left"]) (.i 0)) #[.e (.m (.v 1) "give" #[.s "met",.i 1]),.r (.i 1)] .n,.a 3 (.m (.v 2) "look" #[.m (.v 1) "holds" #[.s "here"]]),.f (.q .NotEq (.v 3) (.m (.v 2) "look" #[.m (.v 1) "holds" #[.s "there"]])) #[.e (.m (.v 1) "give" #[.s "met",.i 0]),.r (.i 1)] .n,.e (.m (.v 1) "give" #[.s "met",.i 1]),.e (.k 65 #[.v 1,.s "here"]),.e (.k 65 #[.v 1,.s "there"]),.r (.k 66 #[.v 1,.i 1])]⟩
abbrev nq:ay:=⟨["self"],["self"],[],#[.r (.lst #[.s "match"])]⟩
abbrev iP:ay:=⟨["self","boxes","store"],["self","boxes","store","left","here","there"],[],#[.a 3 (.m (.v 1) "holds" #[.s "left"]),.f (.q .Eq (.v 3) (.i 0)) #[.r (.i 1)] .n,.a 4 (.m (.v 1) "holds" #[.s "here"]),.a 5 (.m (.v 1) "holds" #[.s "there"]),.f (.q .LtE (.v 5) (.v 4)) #[.e (.k 68 #[.v 2,.v 4,.v 5]),.e (.k 64 #[.v 1,.s "here",.i 1]),.e (.k 64 #[.v 1,.s "there",.i 1])] #[.e (.k 68 #[.v 2,.bin .Sub (.bin .Add (.v 4) (.v 3)) (.i 1),.bin .Sub (.bin .Add (.v 5) (.v 3)) (.i 1)])],.r (.k 66 #[.v 1,.i 1])]⟩
abbrev mX:ay:=⟨["self"],["self"],[],#[.r (.lst #[.s "shift"])]⟩
abbrev jQ:ay:=⟨["self","boxes","store"],["self","boxes","store","left","here"],[],#[.a 3 (.m (.v 1) "holds" #[.s "left"]),.f (.q .Eq (.v 3) (.i 0)) #[.r (.i 1)] .n,.f (.q .Eq (.v 3) (.i 1)) #[.r (.k 66 #[.v 1,.i 1])] .n,.a 4 (.m (.v 1) "holds" #[.s "here"]),.e (.k 69 #[.v 2,.v 4,.bin .Sub (.bin .Add (.v 4) (.v 3)) (.i 1)]),.e (.k 64 #[.v 1,.s "here",.i 1]),.r (.k 66 #[.v 1,.i 2])]⟩
abbrev pM:ay:=⟨["self"],["self"],[],#[.r (.lst #[.s "turn"])]⟩
abbrev gC:ay:=⟨["cells"],["cells","at","thing"],[],#[.f (.or (.not (.val (.isi (.v 0) (.ty "list")))) (.not (.cmp2 .LtE .LtE (.i 1) (.bf .len #[.v 0]) (.gl "MOST_CELLS")))) #[.rais (.make 1 #[.neg (.i 1)])] .n,.for (.tp [1,2]) (.enm (.v 0)) #[.f (.not (.val (.k 10 #[.v 2]))) #[.rais (.make 1 #[.v 1])] .n]]⟩
abbrev my:ay:=⟨["word"],["word"],[],#[.r (.and (.isi (.v 0) (.ty "str")) (.q .In (.v 0) (.gl "LEAVES")))]⟩
abbrev jR:ay:=⟨["low","behind","size"],["low","behind","size"],[],#[.r (.and (.k 9 #[.v 0]) (.and (.k 9 #[.v 1]) (.cmp3 .LtE .LtE .LtE (.i 0) (.v 0) (.v 1) (.v 2))))]⟩
abbrev dQ:ay:=⟨["self","cells"],["self","cells"],[],#[.e (.k 82 #[.v 1]),.fld (.v 0) "contents" (.bf .list #[.v 1]),.fld (.v 0) "permits" (.bin .Mult (.lst #[.s "open"]) (.bf .len #[.v 1]))]⟩
abbrev ip:ay:=⟨["self"],["self"],[],#[.r (.bf .len #[.fld (.v 0) "contents"])]⟩
abbrev iN:ay:=⟨["self"],["self"],[],#[.r (.bf .list #[.fld (.v 0) "contents"])]⟩
abbrev eU:ay:=⟨["self"],["self"],[],#[.r (.bf .list #[.fld (.v 0) "permits"])]⟩
abbrev gB:ay:=⟨["self","low","behind","word"],["self","low","behind","word","cell"],[],#[.f (.or (.not (.val (.k 84 #[.v 1,.v 2,.m (.v 0) "size" .n]))) (.not (.val (.k 83 #[.v 3])))) #[.rais (.make 2 #[.v 1,.v 2,.v 3])] .n,.for (.nm 4) (.rng2 (.v 1) (.v 2)) #[.sub (.fld (.v 0) "permits") (.v 4) (.v 3)]]⟩
abbrev km:ay:=⟨["self","deed","cell"],["self","deed","cell"],[],#[.f (.not (.cmp2 .LtE .Lt (.i 0) (.v 2) (.m (.v 0) "size" .n))) #[.r (.bl false)] .n,.f (.q .Eq (.ix (.fld (.v 0) "permits") (.v 2)) (.s "look")) #[.r (.q .Eq (.v 1) (.s "look"))] .n,.r (.q .Eq (.ix (.fld (.v 0) "permits") (.v 2)) (.s "open"))]⟩
abbrev iT:ay:=⟨["self","cell"],["self","cell"],[],#[.f (.not (.val (.m (.v 0) "may" #[.s "look",.v 1]))) #[.rais (.make 3 #[.s "look",.v 1])] .n,.r (.ix (.fld (.v 0) "contents") (.v 1))]⟩
abbrev jN:ay:=⟨["self","cell","content"],["self","cell","content"],[],#[.f (.not (.val (.m (.v 0) "may" #[.s "put",.v 1]))) #[.rais (.make 3 #[.s "put",.v 1])] .n,.sub (.fld (.v 0) "contents") (.v 1) (.v 2)]⟩
abbrev eG:ay:=⟨["self","cell","content"],["self","cell","content"],[],#[.sub (.fld (.v 0) "contents") (.v 1) (.v 2)]⟩
abbrev fu:ay:=⟨["self"],["self","other"],[],#[.a 1 (.make 27 #[.lst #[.i 0]]),.fld (.v 1) "contents" (.bf .list #[.fld (.v 0) "contents"]),.fld (.v 1) "permits" (.bf .list #[.fld (.v 0) "permits"]),.r (.v 1)]⟩
abbrev kb:ay:=⟨["_law_script"],["_law_script","_law_cells_here","_law_fold","_law_cell"],[],#[.a 1 (.bf .list #[.sl (.v 0) .no (.yes (.i 63))]),.a 2 (.bf .len #[.v 1]),.for (.nm 3) (.seq (.v 1)) #[.a 2 (.bin .Mod (.bin .Add (.bin .Add (.bin .Mult (.v 2) (.i 48271)) (.bin .Mod (.v 3) (.i 2147483647))) (.i 1)) (.i 2147483629))],.r (.lst #[.v 1,.v 2,.i 0,.i 0,.i 0])]⟩
abbrev kA:ay:=⟨["_law_hand_here","_law_many"],["_law_hand_here","_law_many","_law_rest","_law_cell","_law_one","_law_two"],[],#[.augS (.v 0) (.i 4) .Add (.i 1),.a 2 (.ix (.v 0) (.i 3)),.a 3 (.ix (.v 0) (.i 1)),.f (.q .Gt (.v 2) (.i 0)) #[.sub (.v 0) (.i 3) (.bin .FloorDiv (.v 2) (.v 1)),.r (.bin .Mod (.v 2) (.v 1))] .n,.f (.q .Lt (.ix (.v 0) (.i 2)) (.bf .len #[.ix (.v 0) (.i 0)])) #[.a 3 (.ix (.ix (.v 0) (.i 0)) (.ix (.v 0) (.i 2))),.augS (.v 0) (.i 2) .Add (.i 1),.f (.q .GtE (.v 3) (.bin .Pow (.i 10) (.i 18))) #[.sub (.v 0) (.i 3) (.bin .FloorDiv (.v 3) (.v 1)),.r (.bin .Mod (.v 3) (.v 1))] .n] .n,.a 4 (.bin .Mod (.bin .Pow (.bin .Add (.bin .Mod (.v 3) (.i 998244353)) (.bin .Mult (.i 7919) (.ix (.v 0) (.i 4)))) (.i 5)) (.i 2147483647)),.a 5 (.bin .Mod (.bin .Pow (.bin .Add (.bin .Add (.v 4) (.bin .Mult (.i 104729) (.ix (.v 0) (.i 4)))) (.ix (.v 0) (.i 1))) (.i 3)) (.i 2147483629)),.r (.bin .Mod (.bin .FloorDiv (.v 5) (.i 7)) (.v 1))]⟩
abbrev eX:ay:=⟨["_law_hand_here"],["_law_hand_here","_law_way","_law_few"],[],#[.a 1 (.k 96 #[.v 0,.i 4]),.a 2 (.k 96 #[.v 0,.ix (.lst #[.i 3,.i 2,.i 100,.i 100000]) (.v 1)]),.f (.q .Eq (.v 1) (.i 1)) #[.r (.bin .Sub (.bin .Pow (.i 10) (.i 9)) (.v 2))] .n,.f (.q .Eq (.v 1) (.i 3)) #[.r (.bin .Mod (.bin .Add (.bin .Mult (.v 2) (.i 10001)) (.k 96 #[.v 0,.i 10001])) (.bin .Add (.bin .Pow (.i 10) (.i 9)) (.i 1)))] .n,.r (.v 2)]⟩
abbrev iB:ay:=⟨["_law_hand_here","_law_most"],["_law_hand_here","_law_most","_law_few"],[],#[.a 2 (.ix (.lst #[.i 3,.bin .Pow (.i 10) (.i 5)]) (.k 96 #[.v 0,.i 2])),.r (.lc (.k 96 #[.v 1,.v 2]) [0,2] (.rng1 (.bin .Add (.i 1) (.k 96 #[.v 0,.v 1]))))]⟩
abbrev gu:ay:=⟨["_law_hand_here","_law_many"],["_law_hand_here","_law_many","_law_leaves_here","_law_k","_law_word","_law_low","_law_cell"],[],#[.a 2 (.bin .Mult (.lst #[.s "open"]) (.v 1)),.for (.nm 3) (.rng1 (.ix (.lst #[.i 0,.i 0,.i 1,.i 2,.i 4]) (.k 96 #[.v 0,.i 5]))) #[.a 4 (.ix (.lst #[.s "look",.s "shut",.s "look",.s "open"]) (.k 96 #[.v 0,.i 4])),.a 5 (.k 96 #[.v 0,.v 1]),.for (.nm 6) (.rng2 (.v 5) (.bin .Add (.v 5) (.k 96 #[.v 0,.bin .Add (.bin .Sub (.v 1) (.v 5)) (.i 1)]))) #[.sub (.v 2) (.v 6) (.v 4)]],.r (.v 2)]⟩
abbrev jV:ay:=⟨["_law_hand_here","_law_many"],["_law_hand_here","_law_many","_law_way"],[],#[.a 2 (.k 96 #[.v 0,.i 8]),.f (.q .Lt (.v 2) (.i 4)) #[.r (.k 96 #[.v 0,.v 1])] .n,.f (.q .Lt (.v 2) (.i 6)) #[.r (.ix (.lst #[.i 0,.bin .Sub (.v 1) (.i 1)]) (.bin .Sub (.v 2) (.i 4)))] .n,.f (.q .Eq (.v 2) (.i 6)) #[.r (.ix (.lst #[.bin .Sub (.neg (.i 1)) (.k 96 #[.v 0,.i 3]),.bin .Add (.v 1) (.k 96 #[.v 0,.i 3])]) (.k 96 #[.v 0,.i 2]))] .n,.r (.ix (.lst #[.bin .Sub (.bin .Pow (.i 10) (.i 9)) (.k 96 #[.v 0,.i 2]),.bin .Sub (.k 96 #[.v 0,.i 2]) (.bin .Pow (.i 10) (.i 9)),.k 96 #[.v 0,.v 1]]) (.k 96 #[.v 0,.i 3]))]⟩
abbrev g9:ay:=⟨["_law_hand_here","_law_cells_here"],["_law_hand_here","_law_cells_here","_law_many","_law_way","_law_left","_law_sign","_law_here","_law_there"],[],#[.a 2 (.bf .len #[.v 1]),.a 3 (.k 96 #[.v 0,.i 8]),.a 4 (.ix (.lst #[.k 96 #[.v 0,.bin .Add (.v 2) (.i 1)],.k 96 #[.v 0,.i 4],.bin .Add (.v 2) (.k 96 #[.v 0,.i 3])]) (.bin .Mod (.v 3) (.i 3))),.f (.q .Eq (.v 3) (.i 7)) #[.a 4 (.bin .Sub (.bin .Pow (.i 10) (.i 9)) (.k 96 #[.v 0,.i 2]))] .n,.a 5 (.ix (.lst #[.ix (.v 1) (.k 96 #[.v 0,.v 2]),.k 97 #[.v 0]]) (.bin .FloorDiv (.k 96 #[.v 0,.i 4]) (.i 3))),.a 6 (.k 100 #[.v 0,.v 2]),.a 7 (.k 100 #[.v 0,.v 2]),.a 3 (.bin .Sub (.i 1) (.bin .Mult (.i 2) (.k 96 #[.v 0,.i 2]))),.r (.disp ["here","there","left","way","sign","met"] #[.v 6,.v 7,.v 4,.v 3,.v 5,.k 96 #[.v 0,.i 2]])]⟩
abbrev jZ:ay:=⟨["_law_hand_here","_law_size"],["_law_hand_here","_law_size","_law_way","_law_names","_law_box","_law_pick"],[],#[.a 2 (.k 96 #[.v 0,.i 14]),.a 3 (.lst #[.s "here",.s "there",.s "left",.s "way",.s "sign",.s "met"]),.a 4 (.ix (.v 3) (.k 96 #[.v 0,.i 6])),.f (.q .Lt (.v 2) (.i 6)) #[.r (.tup #[.ix (.lst #[.s "copy",.s "fill",.s "seek",.s "match",.s "shift",.s "turn"]) (.v 2)])] .n,.f (.q .Lt (.v 2) (.i 9)) #[.a 4 (.ix (.lst #[.s "here",.s "there",.s "left",.v 4]) (.k 96 #[.v 0,.i 4])),.a 5 (.bin .FloorDiv (.k 96 #[.v 0,.i 8]) (.i 3)),.r (.tup #[.s "set",.v 4,.ix (.lst #[.k 96 #[.v 0,.bin .Add (.v 1) (.i 1)],.bin .Sub (.k 96 #[.v 0,.i 5]) (.i 2),.bin .Sub (.bin .Pow (.i 10) (.i 9)) (.k 96 #[.v 0,.i 2])]) (.v 5)])] .n,.f (.q .Eq (.v 2) (.i 9)) #[.a 5 (.bin .FloorDiv (.k 96 #[.v 0,.i 7]) (.i 3)),.r (.tup #[.s "add",.v 4,.ix (.lst #[.bin .Sub (.k 96 #[.v 0,.i 7]) (.i 3),.k 96 #[.v 0,.bin .Add (.v 1) (.i 1)],.neg (.bin .Pow (.i 10) (.i 9))]) (.v 5)])] .n,.f (.q .Eq (.v 2) (.i 10)) #[.r (.tup #[.s "take",.v 4,.ix (.v 3) (.k 96 #[.v 0,.i 6])])] .n,.f (.q .Lt (.v 2) (.i 13)) #[.r (.tup #[.ix (.lst #[.s "read",.s "write"]) (.bin .Sub (.v 2) (.i 11)),.v 4])] .n,.r (.tup #[.s "hop",.k 96 #[.v 0,.i 4],.ix (.lst #[.non,.i 0,.i 1]) (.k 96 #[.v 0,.i 3])])]⟩
abbrev ki:ay:=⟨["_law_spec_here"],["_law_spec_here","_law_word"],[],#[.a 1 (.ix (.v 0) (.i 0)),.f (.q .Eq (.v 1) (.s "set")) #[.r (.make 12 #[.ix (.v 0) (.i 1),.ix (.v 0) (.i 2)])] .n,.f (.q .Eq (.v 1) (.s "add")) #[.r (.make 13 #[.ix (.v 0) (.i 1),.ix (.v 0) (.i 2)])] .n,.f (.q .Eq (.v 1) (.s "take")) #[.r (.make 14 #[.ix (.v 0) (.i 1),.ix (.v 0) (.i 2)])] .n,.f (.q .Eq (.v 1) (.s "read")) #[.r (.make 15 #[.ix (.v 0) (.i 1)])] .n,.f (.q .Eq (.v 1) (.s "write")) #[.r (.make 16 #[.ix (.v 0) (.i 1)])] .n,.f (.q .Eq (.v 1) (.s "hop")) #[.r (.make 20 #[.ix (.v 0) (.i 1),.ix (.v 0) (.i 2)])] .n,.r (.k 104 #[.v 1])]⟩
abbrev j9:ay:=⟨["_law_word"],["_law_word","_law_made"],[],#[.a 1 (.lst #[.mk0 21,.mk0 22,.mk0 23,.mk0 24,.mk0 25,.mk0 26]),.r (.ix (.v 1) (.lix (.lst #[.s "copy",.s "fill",.s "seek",.s "match",.s "shift",.s "turn"]) (.v 0)))]⟩
abbrev lh:ay:=⟨["_law_leaves_here","_law_deed_here","_law_cell"],["_law_leaves_here","_law_deed_here","_law_cell"],[],#[.f (.or (.q .Lt (.v 2) (.i 0)) (.q .GtE (.v 2) (.bf .len #[.v 0]))) #[.r (.bl false)] .n,.r (.or (.q .Eq (.ix (.v 0) (.v 2)) (.s "open")) (.and (.q .Eq (.ix (.v 0) (.v 2)) (.s "look")) (.q .Eq (.v 1) (.s "look"))))]⟩
abbrev dX:ay:=⟨["_law_spec_here","_law_boxes_here"],["_law_spec_here","_law_boxes_here","_law_here","_law_there","_law_left","_law_word","_law_far","_law_found"],[],#[.par [2,3,4] #[.ix (.v 1) (.s "here"),.ix (.v 1) (.s "there"),.ix (.v 1) (.s "left")],.a 5 (.ix (.v 0) (.i 0)),.f (.q .Eq (.v 5) (.s "write")) #[.r (.tup #[.lst .n,.lst #[.v 3]])] .n,.f (.q .Eq (.v 5) (.s "read")) #[.r (.tup #[.lst #[.v 2],.lst .n])] .n,.f (.or (.q .Eq (.v 4) (.i 0)) (.and (.q .Eq (.v 5) (.s "turn")) (.q .Eq (.v 4) (.i 1)))) #[.r (.tup #[.lst .n,.lst .n])] .n,.a 6 (.bin .Mult (.bin .Sub (.v 4) (.i 1)) (.bf .int #[.q .Gt (.v 3) (.v 2)])),.a 7 (.disp ["copy","fill","seek","match"] #[.tup #[.lst #[.v 2],.lst #[.v 3]],.tup #[.lst .n,.lst #[.v 3]],.tup #[.lst #[.v 2],.lst .n],.tup #[.lst #[.v 2,.v 3],.lst .n]]),.sub (.v 7) (.s "shift") (.tup #[.lst #[.bin .Add (.v 2) (.v 6)],.lst #[.bin .Add (.v 3) (.v 6)]]),.sub (.v 7) (.s "turn") (.tup #[.lst #[.v 2,.bin .Sub (.bin .Add (.v 2) (.v 4)) (.i 1)],.lst #[.v 2,.bin .Sub (.bin .Add (.v 2) (.v 4)) (.i 1)]]),.r (.dget (.v 7) (.v 5) (.tup #[.lst .n,.lst .n]))]⟩
abbrev kj:ay:=⟨["_law_box","_law_number"],["_law_box","_law_number"],[],#[.f (.or (.q .Eq (.v 0) (.s "here")) (.q .Eq (.v 0) (.s "there"))) #[.r (.cmp2 .LtE .LtE (.neg (.bin .Pow (.i 10) (.i 9))) (.v 1) (.bin .Pow (.i 10) (.i 9)))] .n,.f (.or (.q .Eq (.v 0) (.s "left")) (.q .Eq (.v 0) (.s "sign"))) #[.r (.cmp2 .LtE .LtE (.i 0) (.v 1) (.bin .Pow (.i 10) (.i 9)))] .n,.f (.q .Eq (.v 0) (.s "way")) #[.r (.or (.q .Eq (.v 1) (.i 1)) (.q .Eq (.v 1) (.neg (.i 1))))] .n,.r (.or (.q .Eq (.v 1) (.i 0)) (.q .Eq (.v 1) (.i 1)))]⟩
abbrev ck:ay:=⟨["_law_spec_here","_law_boxes_here","_law_leaves_here"],["_law_spec_here","_law_boxes_here","_law_leaves_here","_law_looks","_law_puts","_law_cell"],[],#[.f (.and (.q .Eq (.ix (.v 0) (.i 0)) (.s "write")) (.not (.cmp2 .LtE .LtE (.i 0) (.ix (.v 1) (.ix (.v 0) (.i 1))) (.bin .Pow (.i 10) (.i 9))))) #[.r (.tup #[.s "fit",.ix (.v 0) (.i 1),.ix (.v 1) (.ix (.v 0) (.i 1))])] .n,.asgT [3,4] (.k 106 #[.v 0,.v 1]),.for (.nm 5) (.seq (.v 3)) #[.f (.not (.val (.k 105 #[.v 2,.s "look",.v 5]))) #[.r (.tup #[.s "look",.v 5,.i 0])] .n],.for (.nm 5) (.seq (.v 4)) #[.f (.not (.val (.k 105 #[.v 2,.s "put",.v 5]))) #[.r (.tup #[.s "put",.v 5,.i 0])] .n],.r .non]⟩
abbrev ky:ay:=⟨["_law_spec_here","_law_boxes_here","_law_cells_here","_law_leaves_here"],["_law_spec_here","_law_boxes_here","_law_cells_here","_law_leaves_here","_law_barred_here","_law_word","_law_number"],[],#[.a 4 (.k 108 #[.v 0,.v 1,.v 3]),.f (.q .IsNot (.v 4) .non) #[.r (.v 4)] .n,.a 5 (.ix (.v 0) (.i 0)),.f (.q .In (.v 5) (.tup #[.s "set",.s "add",.s "take",.s "read"])) #[.a 6 (.ix (.v 0) (.neg (.i 1))),.f (.q .Eq (.v 5) (.s "add")) #[.a 6 (.bin .Add (.ix (.v 1) (.ix (.v 0) (.i 1))) (.v 6))] .n,.f (.q .Eq (.v 5) (.s "take")) #[.a 6 (.ix (.v 1) (.ix (.v 0) (.i 2)))] .n,.f (.q .Eq (.v 5) (.s "read")) #[.a 6 (.ix (.v 2) (.ix (.v 1) (.s "here")))] .n,.f (.not (.val (.k 107 #[.ix (.v 0) (.i 1),.v 6]))) #[.r (.tup #[.s "fit",.ix (.v 0) (.i 1),.v 6])] .n,.sub (.v 1) (.ix (.v 0) (.i 1)) (.v 6),.r (.tup #[.s "on",.i 1,.i 0])] .n,.f (.q .Eq (.v 5) (.s "write")) #[.sub (.v 2) (.ix (.v 1) (.s "there")) (.ix (.v 1) (.ix (.v 0) (.i 1))),.r (.tup #[.s "on",.i 1,.i 0])] .n,.f (.q .Eq (.v 5) (.s "hop")) #[.r (.tup #[.s "on",.bin .Add (.i 1) (.bin .Mult (.ix (.v 0) (.i 1)) (.bf .int #[.or (.q .Is (.ix (.v 0) (.i 2)) .non) (.q .Eq (.ix (.v 0) (.i 2)) (.ix (.v 1) (.s "met")))])),.i 0])] .n,.r (.tup #[.s "on",.k 110 #[.v 5,.v 1,.v 2],.i 0])]⟩
abbrev iZ:ay:=⟨["_law_word","_law_boxes_here","_law_cells_here"],["_law_word","_law_boxes_here","_law_cells_here","_law_here","_law_there","_law_left","_law_way","_law_size","_law_content_here"],[],#[.par [3,4,5] #[.ix (.v 1) (.s "here"),.ix (.v 1) (.s "there"),.ix (.v 1) (.s "left")],.a 6 (.ix (.v 1) (.s "way")),.f (.q .In (.v 0) (.tup #[.s "seek",.s "match"])) #[.r (.k 111 #[.v 0,.v 1,.v 2])] .n,.f (.q .Eq (.v 5) (.i 0)) #[.r (.i 1)] .n,.a 7 (.i 1),.f (.q .Eq (.v 0) (.s "copy")) #[.sub (.v 2) (.v 4) (.ix (.v 2) (.v 3)),.sub (.v 1) (.s "here") (.bin .Add (.v 3) (.v 6)),.sub (.v 1) (.s "there") (.bin .Add (.v 4) (.v 6))] .n,.f (.q .Eq (.v 0) (.s "fill")) #[.sub (.v 2) (.v 4) (.ix (.v 1) (.s "sign")),.sub (.v 1) (.s "there") (.bin .Add (.v 4) (.v 6))] .n,.f (.and (.q .Eq (.v 0) (.s "shift")) (.q .LtE (.v 4) (.v 3))) #[.sub (.v 2) (.v 4) (.ix (.v 2) (.v 3)),.sub (.v 1) (.s "here") (.bin .Add (.v 3) (.i 1)),.sub (.v 1) (.s "there") (.bin .Add (.v 4) (.i 1))] #[.f (.q .Eq (.v 0) (.s "shift")) #[.sub (.v 2) (.bin .Sub (.bin .Add (.v 4) (.v 5)) (.i 1)) (.ix (.v 2) (.bin .Sub (.bin .Add (.v 3) (.v 5)) (.i 1)))] .n],.f (.and (.q .Eq (.v 0) (.s "turn")) (.q .Gt (.v 5) (.i 1))) #[.a 7 (.i 2),.a 8 (.ix (.v 2) (.v 3)),.sub (.v 2) (.v 3) (.ix (.v 2) (.bin .Sub (.bin .Add (.v 3) (.v 5)) (.i 1))),.sub (.v 2) (.bin .Sub (.bin .Add (.v 3) (.v 5)) (.i 1)) (.v 8),.sub (.v 1) (.s "here") (.bin .Add (.v 3) (.i 1))] .n,.sub (.v 1) (.s "left") (.bin .Sub (.v 5) (.v 7)),.r (.bf .int #[.q .Eq (.ix (.v 1) (.s "left")) (.i 0)])]⟩
abbrev gq:ay:=⟨["_law_word","_law_boxes_here","_law_cells_here"],["_law_word","_law_boxes_here","_law_cells_here","_law_here","_law_there","_law_left","_law_way","_law_other"],[],#[.par [3,4,5] #[.ix (.v 1) (.s "here"),.ix (.v 1) (.s "there"),.ix (.v 1) (.s "left")],.a 6 (.ix (.v 1) (.s "way")),.f (.q .Eq (.v 5) (.i 0)) #[.sub (.v 1) (.s "met") (.bf .int #[.q .Eq (.v 0) (.s "match")]),.r (.i 1)] .n,.a 7 (.ix (.v 1) (.s "sign")),.f (.q .Eq (.v 0) (.s "match")) #[.a 7 (.ix (.v 2) (.v 4))] .n,.f (.q .Eq (.q .Eq (.ix (.v 2) (.v 3)) (.v 7)) (.q .Eq (.v 0) (.s "seek"))) #[.sub (.v 1) (.s "met") (.bf .int #[.q .Eq (.v 0) (.s "seek")]),.r (.i 1)] .n,.sub (.v 1) (.s "met") (.bf .int #[.q .Eq (.v 0) (.s "match")]),.sub (.v 1) (.s "here") (.bin .Add (.v 3) (.v 6)),.f (.q .Eq (.v 0) (.s "match")) #[.sub (.v 1) (.s "there") (.bin .Add (.v 4) (.v 6))] .n,.sub (.v 1) (.s "left") (.bin .Sub (.v 5) (.i 1)),.r (.bf .int #[.q .Eq (.v 5) (.i 1)])]⟩
abbrev iW:ay:=⟨["_law_cells_here","_law_leaves_here"],["_law_cells_here","_law_leaves_here","_law_store_here","_law_cell"],[],#[.a 2 (.make 27 #[.bf .list #[.v 0]]),.for (.nm 3) (.rng1 (.bf .len #[.v 0])) #[.e (.m (.v 2) "leave" #[.v 3,.bin .Add (.v 3) (.i 1),.ix (.v 1) (.v 3)])],.r (.v 2)]⟩
abbrev hX:ay:=⟨["_law_six_here"],["_law_six_here"],[],#[.r (.make 10 #[.ix (.v 0) (.s "here"),.ix (.v 0) (.s "there"),.ix (.v 0) (.s "left"),.ix (.v 0) (.s "way"),.ix (.v 0) (.s "sign"),.ix (.v 0) (.s "met")])]⟩
abbrev eA:ay:=⟨["_law_hand_here","_law_most","_law_shut"],["_law_hand_here","_law_most","_law_shut","_law_cells_here","_law_leaves_here","_law_six_here","_law_many","_law_specs"],[],#[.a 3 (.k 98 #[.v 0,.v 1]),.a 4 (.bin .Mult (.lst #[.s "open"]) (.bf .len #[.v 3])),.f (.val (.v 2)) #[.a 4 (.k 99 #[.v 0,.bf .len #[.v 3]])] .n,.a 5 (.k 101 #[.v 0,.v 3]),.a 6 (.ix (.lst #[.i 3,.i 8,.i 24]) (.k 96 #[.v 0,.i 3])),.a 7 (.lc (.k 102 #[.v 1,.bf .len #[.v 2]]) [0,3] (.rng1 (.bin .Add (.i 1) (.k 96 #[.v 0,.v 6])))),.r (.lst #[.v 7,.bin .Mult (.bin .FloorDiv (.k 96 #[.v 0,.i 4]) (.i 3)) (.k 96 #[.v 0,.bin .Add (.bf .len #[.v 7]) (.i 1)]),.v 5,.v 3,.v 4,.lst .n])]⟩
abbrev oh:ay:=⟨["_law_own_here"],["_law_own_here","_law_specs","_law_at","_law_six_here","_law_cells_here","_law_leaves_here","_law_log","_law_boxes_here","_law_puts","_law_old","_law_told"],[],#[.asgT [1,2,3,4,5,6] (.v 0),.f (.q .Eq (.v 2) (.bf .len #[.v 1])) #[.r (.s "end")] .n,.a 7 (.vals true (.v 3)),.a 8 (.ix (.k 106 #[.ix (.v 1) (.v 2),.v 3]) (.i 1)),.a 9 (.bf .list #[.v 4]),.a 10 (.k 109 #[.ix (.v 1) (.v 2),.v 3,.v 4,.v 5]),.f (.q .NotEq (.ix (.v 10) (.i 0)) (.s "on")) #[.r (.s "stop")] .n,.e (.lm .append (.v 6) #[.tup #[.v 2,.v 7,.lc (.tup #[.v 0,.ix (.v 1) (.v 0),.ix (.v 2) (.v 0)]) [9,4] (.seq (.v 8))]]),.sub (.v 0) (.i 1) (.bf .min #[.bin .Add (.v 2) (.ix (.v 10) (.i 1)),.bf .len #[.v 1]]),.r (.s "on")]⟩
abbrev j8:ay:=⟨["_law_own_here","_law_many"],["_law_own_here","_law_many","_law_k","_law_at","_law_boxes_here","_law_changes","_law_box","_law_number","_law_cell","_law_before","_law_behind"],[],#[.for (.nm 2) (.rng1 (.v 1)) #[.asgT [3,4,5] (.lm .pop (.ix (.v 0) (.i 5)) .n),.sub (.v 0) (.i 1) (.v 3),.for (.tp [6,7]) (.zip (.bf .list #[.ix (.v 0) (.i 2)]) (.v 4)) #[.sub (.ix (.v 0) (.i 2)) (.v 6) (.v 7)],.for (.tp [8,9,10]) (.seq (.rev (.v 5) (.neg (.i 1)))) #[.sub (.ix (.v 0) (.i 3)) (.v 8) (.v 9)]]]⟩
abbrev iV:ay:=⟨["_law_own_here"],["_law_own_here"],[],#[.r (.tup #[.ix (.v 0) (.i 1),.vals true (.ix (.v 0) (.i 2)),.bf .list #[.ix (.v 0) (.i 3)]])]⟩
abbrev gp:ay:=⟨["_law_machine","_law_own_here"],["_law_machine","_law_own_here"],[],#[.f (.or (.q .NotEq (.m (.v 0) "state" .n) (.k 117 #[.v 1])) (.q .NotEq (.m (.v 0) "leaves" .n) (.ix (.v 1) (.i 4)))) #[.r (.bl false)] .n,.r (.q .Eq (.m (.v 0) "log" .n) (.ix (.v 1) (.i 5)))]⟩
abbrev kB:ay:=⟨["_law_own_here"],["_law_own_here"],[],#[.r (.lst #[.ix (.v 0) (.i 0),.ix (.v 0) (.i 1),.bf .dict #[.ix (.v 0) (.i 2)],.bf .list #[.ix (.v 0) (.i 3)],.bf .list #[.ix (.v 0) (.i 4)],.lct (.tup #[.v 0,.v 1,.bf .list #[.v 2]]) 3 [] (.seq (.ix (.v 0) (.i 5)))])]⟩
abbrev gm:ay:=⟨["_law_machine"],["_law_machine","_law_found","_law_sizes","_law_entry","_law_told"],[],#[.a 1 (.m (.v 0) "log" .n),.e (.lm .append (.ix (.m (.v 0) "state" .n) (.i 2)) #[.i 5]),.e (.lm .clear (.m (.v 0) "leaves" .n) .n),.a 2 (.lc (.bin .Add (.bf .len #[.ix (.v 0) (.i 2)]) (.i 1)) [] (.seq (.v 1))),.for (.nm 3) (.seq (.v 1)) #[.e (.lm .append (.ix (.v 3) (.i 2)) #[.tup #[.i 7,.i 7,.i 7]])],.a 4 (.lc (.bf .len #[.ix (.v 0) (.i 2)]) [] (.seq (.v 1))),.e (.lm .append (.v 1) #[.tup .n]),.r (.q .Eq (.v 4) (.v 2))]⟩
abbrev j0:ay:=⟨["_law_hand_here","_law_machine","_law_own_here"],["_law_hand_here","_law_machine","_law_own_here","_law_many","_law_step_here"],[],#[.a 3 (.k 96 #[.v 0,.i 5]),.f (.q .Lt (.k 96 #[.v 0,.i 3]) (.i 2)) #[.for (.nm 4) (.rng1 (.v 3)) #[.f (.q .NotEq (.m (.v 1) "step" .n) (.k 115 #[.v 2])) #[.r (.bl false)] .n],.r (.bl true)] .n,.a 3 (.bf .min #[.v 3,.bf .len #[.ix (.v 2) (.i 5)]]),.e (.m (.v 1) "back" #[.v 3]),.e (.k 116 #[.v 2,.v 3]),.r (.bl true)]⟩
abbrev iz:ay:=⟨["_law_script"],["_law_script","_law_hand_here","_law_own_here","_law_rows","_law_store_here","_law_boxes_here","_law_owns","_law_pair","_law_kept","_law_turn_here","_law_at"],[],#[.a 1 (.k 95 #[.v 0]),.a 2 (.k 114 #[.v 1,.i 12,.bl true]),.a 3 (.lc (.k 103 #[.v 0]) [] (.seq (.ix (.v 2) (.i 0)))),.a 4 (.k 112 #[.ix (.v 2) (.i 3),.ix (.v 2) (.i 4)]),.a 5 (.k 113 #[.ix (.v 2) (.i 2)]),.a 6 (.lst #[.v 2,.k 119 #[.v 2]]),.a 7 (.lst #[.make 19 #[.v 3,.v 4,.v 5,.ix (.v 2) (.i 1)],.make 19 #[.v 3,.v 4,.v 5,.ix (.v 2) (.i 1)]]),.a 8 (.lst #[.m (.v 4) "told" .n,.m (.v 4) "leaves" .n,.m (.v 5) "told" .n]),.for (.nm 9) (.rng1 (.i 16)) #[.a 10 (.k 96 #[.v 1,.i 2]),.f (.q .Eq (.k 96 #[.v 1,.i 6]) (.i 0)) #[.sub (.v 7) (.v 10) (.m (.ix (.v 7) (.bin .Sub (.i 1) (.v 10))) "copied" .n),.sub (.v 6) (.v 10) (.k 119 #[.ix (.v 6) (.bin .Sub (.i 1) (.v 10))])] #[.f (.not (.val (.k 121 #[.v 1,.ix (.v 7) (.v 10),.ix (.v 6) (.v 10)]))) #[.r (.bl false)] .n],.f (.or (.not (.val (.k 120 #[.ix (.v 7) (.v 10)]))) (.not (.val (.bf .all #[.lc (.k 118 #[.ix (.v 1) (.v 0),.ix (.v 2) (.v 0)]) [7,6] (.rng1 (.i 2))])))) #[.r (.bl false)] .n,.f (.q .NotEq (.lst #[.m (.v 4) "told" .n,.m (.v 4) "leaves" .n,.m (.v 5) "told" .n]) (.v 8)) #[.r (.bl false)] .n,.e (.lm .append (.v 3) #[.ix (.v 3) (.i 0)]),.e (.m (.v 4) "leave" #[.i 0,.m (.v 4) "size" .n,.ix (.lst #[.s "open",.s "shut"]) (.bin .Mod (.v 9) (.i 2))]),.e (.m (.v 5) "give" #[.s "met",.bin .Mod (.v 9) (.i 2)]),.a 8 (.lst #[.m (.v 4) "told" .n,.m (.v 4) "leaves" .n,.m (.v 5) "told" .n])],.r (.bl true)]⟩
abbrev tab:Tab where
  fns:=(cM::cV::eC::dP::jc::iu::iw::gT::i4::lj::iA::k9::ke::zA::dA::gz::dY::iS::eT::mM::jW::fJ::fk::lr::rp::fz::md::sx::eJ::kx::qp::eD::jS::qo::dH::iX::mZ::iK::gw::vV::cQ::eB::dg::mq::eE::dF::kC::lK::je::dz::jG::i8::j5::cP::fL::gE::fv::fB::dM::nR::vX::eY::mD::rB::qe::fE::ku::oO::BP::lW::j4::pW::jU::pO::kg::qj::i7::nq::iP::mX::jQ::pM::gC::my::jR::dQ::ip::iN::eU::gB::km::iT::jN::eG::fu::kb::kA::eX::iB::gu::jV::g9::jZ::ki::j9::lh::dX::kj::ck::ky::iZ::gq::iW::hX::eA::oh::j8::iV::gp::kB::gm::j0::iz::[])
  gfn:=(("is_whole",9)::("is_content",10)::("is_box",11)::("is_number",12)::("fits",13)::("boxes_of",19)::("check_box",20)::("check_number",21)::("check_rows",37)::("check_place",38)::("tried",39)::("is_many",59)::("is_on",60)::("more",64)::("go_by_way",65)::("less_left",66)::("ask_put",67)::("haul",68)::("exchange",69)::("check_cells",82)::("is_leave",83)::("is_within",84)::("_law_hand",95)::("_law_draw",96)::("_law_content",97)::("_law_cells",98)::("_law_leaves",99)::("_law_spot",100)::("_law_six",101)::("_law_spec",102)::("_law_deed",103)::("_law_long",104)::("_law_let",105)::("_law_reach",106)::("_law_fits",107)::("_law_barred",108)::("_law_step",109)::("_law_moved",110)::("_law_looked",111)::("_law_store",112)::("_law_boxes",113)::("_law_own",114)::("_law_go",115)::("_law_undo",116)::("_law_state",117)::("_law_stands",118)::("_law_twin",119)::("_law_messed",120)::("_law_turn",121)::("law",122)::[])
  gcl:=[("HaulError",0),("NoStore",1),("NoLeave",2),("Stop",3),("NoFit",4),("NoBox",5),("NoDeed",6),("NoRows",7),("NoPlace",8),("NoBack",9),("Boxes",10),("Deed",11),("Set",12),("Add",13),("Take",14),("Read",15),("Write",16),("Machine",17),("Noted",18),("Watched",19),("Hop",20),("Copy",21),("Fill",22),("Seek",23),("Match",24),("Shift",25),("Turn",26),("Store",27)]
  gbl:=["all","bool","dict","enumerate","int","isinstance","len","list","min","range","str","tuple","zip"]
  gbi:=["HaulError"]
  na:=((1,"at")::(2,"behind")::(2,"low")::(2,"word")::(3,"cell")::(3,"deed")::(4,"box")::(4,"number")::(5,"box")::(6,"word")::(7,"at")::(8,"at")::(9,"many")::(10,"numbers")::(12,"box")::(12,"number")::(13,"box")::(13,"number")::(14,"box")::(14,"other")::(15,"box")::(16,"box")::(17,"at")::(17,"boxes")::(17,"deeds")::(17,"store")::(18,"before")::(18,"changes")::(18,"store")::(19,"at")::(19,"boxes")::(19,"deeds")::(19,"entries")::(19,"store")::(20,"many")::(20,"on")::(27,"contents")::(27,"permits")::[])
  me:=(((10,"copied"),18)::((10,"give"),16)::((10,"holds"),15)::((10,"told"),17)::((12,"step"),23)::((12,"words"),24)::((13,"step"),26)::((13,"words"),27)::((14,"step"),29)::((14,"words"),30)::((15,"step"),32)::((15,"words"),33)::((16,"step"),35)::((16,"words"),36)::((17,"copied"),48)::((17,"ended"),41)::((17,"leave"),46)::((17,"leaves"),45)::((17,"rows"),47)::((17,"state"),44)::((17,"step"),43)::((17,"step_on"),42)::((18,"look"),51)::((18,"may"),50)::((18,"put"),52)::((19,"back"),56)::((19,"copied"),58)::((19,"ended"),41)::((19,"leave"),46)::((19,"leaves"),45)::((19,"log"),55)::((19,"rows"),47)::((19,"state"),44)::((19,"step"),54)::((19,"step_on"),42)::((19,"undo"),57)::((20,"step"),62)::((20,"words"),63)::((21,"step"),70)::((21,"words"),71)::((22,"step"),72)::((22,"words"),73)::((23,"step"),74)::((23,"words"),75)::((24,"step"),76)::((24,"words"),77)::((25,"step"),78)::((25,"words"),79)::((26,"step"),80)::((26,"words"),81)::((27,"copied"),94)::((27,"leave"),89)::((27,"leaves"),88)::((27,"look"),91)::((27,"may"),90)::((27,"put"),92)::((27,"restore"),93)::((27,"size"),86)::((27,"told"),87)::[])
  ini:=[(1,0),(2,1),(3,2),(4,3),(5,4),(6,5),(7,6),(8,7),(9,8),(10,14),(12,22),(13,25),(14,28),(15,31),(16,34),(17,40),(18,49),(19,53),(20,61),(27,85)]
  ini0:=[]
  inip:=[21,22,23,24,25,26]
  oc:=[10,11,12,13,14,15,16,17,18,19,20,21,22,23,24,25,26,27]
  xc:=[0,1,2,3,4,5,6,7,8,9]
  sub:=(((0,4),false)::((0,3),false)::((1,4),false)::((1,3),false)::((2,4),false)::((2,3),false)::((3,4),false)::((3,3),true)::((4,4),true)::((4,3),false)::((5,4),false)::((5,3),false)::((6,4),false)::((6,3),false)::((7,4),false)::((7,3),false)::((8,4),false)::((8,3),false)::((9,4),false)::((9,3),false)::((10,11),false)::((11,11),true)::((12,11),true)::((13,11),true)::((14,11),true)::((15,11),true)::((16,11),true)::((17,11),false)::((18,11),false)::((19,11),false)::((20,11),true)::((21,11),true)::((22,11),true)::((23,11),true)::((24,11),true)::((25,11),true)::((26,11),true)::((27,11),false)::[])
  subT:=[]
  subB:=[(("NoneType","bool"),false),(("NoneType","int"),false),(("NoneType","list"),false),(("NoneType","str"),false),(("bool","bool"),true),(("bool","int"),true),(("bool","list"),false),(("bool","str"),false),(("int","bool"),false),(("int","int"),true),(("int","list"),false),(("int","str"),false),(("str","bool"),false),(("str","int"),false),(("str","list"),false),(("str","str"),true),(("list","bool"),false),(("list","int"),false),(("list","list"),true),(("list","str"),false),(("tuple","bool"),false),(("tuple","int"),false),(("tuple","list"),false),(("tuple","str"),false),(("dict","bool"),false),(("dict","int"),false),(("dict","list"),false),(("dict","str"),false)]
  subO:=[]
  cin:=[(17,40)]
/-- what the proofs ask of the addresses -/
structure Ro (K:W.Frag) (R:Rt):Prop where
  hK:R.K=K
  g_BOUND:R.gl "BOUND"=some (.int 1000000000)
  g_MOST_ROWS:R.gl "MOST_ROWS"=some (.int 24)
  g_MOST_HOPPED:R.gl "MOST_HOPPED"=some (.int 24)
  g_MOST_CELLS:R.gl "MOST_CELLS"=some (.int 60)
  g_NAMES:∃ a,R.gl "NAMES"=some (.ref a)/\∀ H,bp K H a [.str "here",.str "there",.str "left",.str "way",.str "sign",.str "met"]
  g_LEAVES:∃ a,R.gl "LEAVES"=some (.ref a)/\∀ H,bp K H a [.str "open",.str "look",.str "shut"]
end My
set_option Elab.async false
set_option maxHeartbeats 8000000
namespace My
open PySem L2 L3
open L2.V renaming ref→wf,int→wn,str→wp,non→wr
open L2.HO renaming lst→wv,tup→ww,ins→wP
local macro_rules|`(tactic|delta $x:ident)=>`(tactic|refine wc (d:=$x) nofun rfl rfl ?_)
variable {h a d dx lv:Addr}{m i r l c at_:Int}{ns cs' c0:List Int}{n:Nat}{v:V}{t:String}{xs vs ds ss:List V}{α:Type}{ws:List Str}{A:az}{P:V->Prop}{kvs:List (Key×V)}{sp:Sp}{o:Option Int}{ts:List Addr}{rest:St}{D:Ends}
section
variable {K:W.Frag}{R:Rt}{k:Nat}{H:Hp}{Q:VK}{E:XK}{O Γ' Δ:List az}
local macro_rules| `(tactic|walk_at "w")=>`(tactic|conv=>whnf)
local macro_rules| `(tactic|left)=>`(tactic|walk_at "w")
local macro_rules| `(tactic|symm)=>`(tactic|((with_reducible (repeat(first|exact ah.e|apply ah.t)));done))
local macro_rules| `(tactic|ac_rfl)=>`(tactic|((with_reducible (repeat(first|exact aH.e|apply aH.t)));done))
local macro_rules| `(tactic|ac_nf)=>`(tactic|first|(with_reducible exact Sub.refl)|(refine' Sub.cons ?h ?r;(case h=>symm);(case r=>ac_nf))|(with_reducible exact Sub.nil)|(with_reducible apply Sub.drop;(ac_nf)))
local macro_rules| `(tactic|walk_at "sp")=>`(tactic|(refine Sep.sub ?_ (by with_reducible assumption);(ac_nf)))
local macro_rules| `(tactic|grind)=>`(tactic|first|exact Sep.get (by with_reducible assumption) (by symm)|exact Sep.kM (by with_reducible assumption) (by symm))
local macro_rules| `(tactic|walk_at "ar")=>`(tactic|first|lia|omega|decide|exact re rfl|(unfold sG;omega)|(unfold DR;omega)|(unfold DR;decide)|(unfold sG;decide)|(simp only[ci,length_set,length_replicate];omega))
local macro_rules| `(tactic|walk_at "ls")=>`(tactic|first|(conv=>lhs;simp only[List.set_cons_succ,List.set_cons_zero,Int.reduceToNat])|rfl)
local macro_rules| `(tactic|walk_at "pf")=>`(tactic|first|(conv=>lhs;simp (decide:=true) only [cY,if_true,if_false])|rfl)
local macro_rules| `(tactic|walk_at "st")=>`(tactic|first
  |(with_reducible refine And.intro rfl ?_)
  |(with_reducible refine aV rfl ?_)
  |(with_reducible refine ax rfl ?_)
  |(with_reducible refine Ig ?_)
  |((with_reducible refine' aI ?e ?v ?_);(case e=>grind);(case v=>exact rfl))
  |((with_reducible refine' jm ?e ?v ?_);(case e=>grind);(case v=>exact rfl))
  |((with_reducible refine' K2 ?e ?i ?v ?_);(case e=>grind);(case i=>omega);(case v=>exact rfl))
  |(with_reducible refine FG rfl ?_)
  |(with_reducible refine bf_max rfl ?_)
  |((with_reducible refine' fX ?e ?_);(case e=>grind))
  |((with_reducible refine' bf_lenT ?e ?_);(case e=>grind))
  |((with_reducible refine' cI ?s ?r ?j ?x (λH hs=>?_));(case s=>with_reducible assumption);(case r=>ac_rfl);(case j=>exact rfl);(case x=>walk_at "ls"))
  |((with_reducible refine' FP ?s ?l (λp H hs=>?_));(case s=>with_reducible assumption);(case l=>exact re rfl))
  |((with_reducible refine' Ac ?s ?l (λp H hs=>?_));(case s=>with_reducible assumption);(case l=>exact re rfl))
  |((with_reducible refine' al_dct ?s (λp H hs=>?_));(case s=>with_reducible assumption))
  |((with_reducible refine' Mz ?e ?_);(case e=>grind))
  |((with_reducible refine' KH ?e ?_);(case e=>grind))
  |((with_reducible refine' cat_l ?s ?e ?f ?l (λp H hs=>?_));(case s=>with_reducible assumption);(case e=>grind);(case f=>grind);(case l=>walk_at "ar"))
  |((with_reducible refine' Jx ?s ?e ?f ?g ?l (λp H hs=>?_));(case s=>with_reducible assumption);(case e=>grind);(case f=>walk_at "ar");(case g=>walk_at "ar");(case l=>walk_at "ar"))
  |((with_reducible refine' Mf ?s ?r ?o ?n ?l ?x (λH hs=>?_));(case s=>with_reducible assumption);(case r=>ac_rfl);(case o=>exact rfl);(case n=>exact rfl);(case l=>walk_at "ar");(case x=>walk_at "pf"))
  |((with_reducible refine' cy ?e ?o ?n ?l ?_);(case e=>grind);(case o=>exact rfl);(case n=>exact rfl);(case l=>exact rfl))
  |((with_reducible refine' KG ?e ?o ?n ?l ?_);(case e=>grind);(case o=>exact rfl);(case n=>exact rfl);(case l=>exact rfl))
  |((with_reducible refine' isi_x ?e ?o ?b ?_);(case e=>grind);(case o=>exact rfl);(case b=>exact rfl))
  |((with_reducible refine' isi_xt ?e ?o ?b ?_);(case e=>grind);(case o=>exact rfl);(case b=>exact rfl))
  |((with_reducible refine' jM ?t ?b ?_);(case t=>exact rfl);(case b=>exact rfl))
  |((with_reducible refine' wj ?a ?b ?_);(case a=>exact rfl);(case b=>exact rfl))
  |((with_reducible refine' wF ?a ?b ?_);(case a=>exact rfl);(case b=>exact rfl))
  |((with_reducible refine' wm ?s ?e (λp H hs=>?_));(case s=>with_reducible assumption);(case e=>grind))
  |((with_reducible refine' sl_l ?s ?e (λp H hs=>?_));(case s=>with_reducible assumption);(case e=>grind))
  |(refine And.intro (by walk_at "ar") ?_))
local macro_rules| `(tactic|walk_at "go")=>`(tactic|(walk_at "w";repeat(walk_at "st";walk_at "w")))
local macro_rules| `(tactic|right)=>`(tactic|walk_at "go")
abbrev hand (h:Addr)(m:Int):az:=ex λx:Addr×List Int×Int×Int×Int×Int=>qG (pt h (wv [wf x.1,wn x.2.2.1,wn x.2.2.2.1,wn x.2.2.2.2.1,wn x.2.2.2.2.2])) (qG (pt x.1 (wv (x.2.1.map wn)))
 (pu (x.2.1.length<=63/\0<=x.2.2.1/\x.2.2.1<2147483629/\0<=x.2.2.2.1/\0<=x.2.2.2.2.1/\0<=x.2.2.2.2.2/\x.2.2.2.2.2<=m)))
def AA (s:Sep (hand h m::O) H):∃ (c:Addr) (ns:List Int) (fo i r n:Int),Sep (pt h (wv [wf c,wn fo,wn i,wn r,wn n])::pt c (wv (ns.map wn))::O) H/\ns.length<=63/\0<=fo/\fo<2147483629/\0<=i/\0<=r/\0<=n/\n<=m:=by
 obtain⟨⟨c,ns,fo,i,r,n⟩,s⟩:=Sep.Iy.mp s;have s2:=Sep.star.mp ((Sep.star.mp s).pull .k1);have p:=(s2.pull .k1).pure;exact⟨c,ns,fo,i,r,n,((s2.pull .k1).drop).pull .k1,p⟩
def jh {c:Addr}{fo n:Int}(s:Sep (pt h (wv [wf c,wn fo,wn i,wn r,wn n])::pt c (wv (ns.map wn))::O) H)(p:ns.length<=63/\0<=fo/\fo<2147483629/\0<=i/\0<=r/\0<=n/\n<=m):Sep (hand h m::O) H:=by
 refine Sep.Iy.mpr ⟨⟨c,ns,fo,i,r,n⟩,Sep.star.mpr ?_⟩;exact(Sep.star.mpr (((s.pull .k1).pull .e |> λs=>(Sep.jq p s).pull .k1))).pull .k1
def Jr:(10:Int) ^ Int.toNat 18=1000000000000000000:=by decide
def ux {n:Int}(hk:1<=k)(s:Sep (hand h m::O) H)(hm:m<=1099511627776)(hn0:0<n)(hn1:n<1073741824)
  (q:∀ (r:Int) (H':Hp),0<=r->r<n->Sep (hand h (m+1)::O) H'->Q (wn r) H'):ae tab R k 96 [wf h,wn n] H Q E:=by
 obtain⟨c,ns,fo,i,r,j,hs,h63,f0,f1,i0,r0,k0,k1⟩:=AA s;clear s;have nn:n≠0:=by omega
 delta kA;right;refine aJ (λhr=>?_) (λhr=>?_)
 .right;rename_i H1 hs1 H2 hs2;exact q _ _ (Int.emod_nonneg _ nn) (Int.emod_lt_of_pos _ hn0) (jh hs2 ⟨h63,f0,f1,i0,Int.ediv_nonneg r0 nofun,by omega,by omega⟩)
 right;refine aJ (λhc=>?_) (λhc=>?_)
 .right;obtain⟨z,hz⟩:∃ z,lS (ns.map wn) i=some (wn z):=zX i0 (by rw[ci]at hc;exact hc);refine aI (by grind) hz ?_;right;refine aJ (λhz18=>?_) (λhz18=>?_)
  .rw[Jr]at hz18;right;rename_i H1 hs1 H2 hs2 H3 hs3;exact q _ _ (Int.emod_nonneg _ nn) (Int.emod_lt_of_pos _ hn0) (jh hs3 ⟨h63,f0,f1,by omega,Int.ediv_nonneg nofun nofun,by omega,by omega⟩)
  .right;rename_i H1 hs1 H2 hs2;exact q _ _ (Int.emod_nonneg _ nn) (Int.emod_lt_of_pos _ hn0) (jh hs2 ⟨h63,f0,f1,by omega,r0,by omega,by omega⟩)
 .right;rename_i H1 hs1;exact q _ _ (Int.emod_nonneg _ nn) (Int.emod_lt_of_pos _ hn0) (jh hs1 ⟨h63,f0,f1,by omega,r0,by omega,by omega⟩)
def Fv (hk:1<=k)(s:Sep O H)(hS:bb R.K H a (ns.map wn))(h63:ns.length<=63)(q:∀ h H',Sep (hand h 0::O) H'->Q (wf h) H'):ae tab R k 95 [wf a] H Q E:=by
 delta kb;right;refine L7 s hS (λp H1 hs1=>?_);rw[Jk ns h63]at hs1;right;rename_i c H2 hs2;refine fY (xs:=ns.map wn) (λj U H=>∃ (fo:Int) (v:Option V),U=[some (wf a),some (wf c),some (wn fo),v]/\0<=fo/\fo<2147483629/\Sep (pt c (wv (ns.map wn))::pt p (wv (ns.map wn))::O) H) ?_ ?_ ?_ ?_
 .exact⟨_,none,rfl,by rw[ci];omega,by rw[ci];omega,hs2⟩
 .rintro j U H ⟨fo,v,rfl,h0,h2,hs⟩;exact bb.of hs.at
 .rintro j x U H hx ⟨fo,v,rfl,h0,h2,hs⟩;obtain⟨z,rfl⟩:=ui hx;right;exact⟨_,_,rfl,by omega,by omega,hs⟩
 .rintro U H ⟨fo,v,rfl,h0,h2,hs⟩;right;rename_i l H3 hs3;exact q l _ (jh ((hs3.pull .k2).drop) ⟨h63,h0,h2,by omega,by omega,by omega,by omega⟩)
def aw {n:Int}(s:Sep (hand h m::O) H)(e:m<=n):Sep (hand h n::O) H:=by
 obtain⟨c,ns,fo,i,r,j,hs,h63,f0,f1,i0,r0,k0,k1⟩:=AA s;exact jh hs ⟨h63,f0,f1,i0,r0,k0,by omega⟩
inductive Kd (H:Hp):V->String->Prop where
 |non:Kd H wr "NoneType"
 |bl (b:Bool):Kd H (.bl b) "bool"
 |int (i:Int):Kd H (wn i) "int"
 |str (x:Str):Kd H (wp x) "str"
 |lst {a:Addr}{xs:List V}(e:H a=some (wv xs)):Kd H (wf a) "list"
 |tup {a:Addr}{xs:List V}(e:H a=some (ww xs)):Kd H (wf a) "tuple"
 |dct {a:Addr}{kvs:List (Key×V)}(e:H a=some (.dK kvs)):Kd H (wf a) "dict"
def fj (h:tyName v H=some t):Kd H v t:=by
 unfold tyName at h
 split at h
 .cases h;exact .non
 .cases h;exact .bl _
 .cases h;exact .int _
 .cases h;exact .str _
 .split at h
  .rename_i e;cases h;exact .lst e
  .rename_i e;cases h;exact .tup e
  .rename_i e;cases h;exact .dct e
  .cases h
 .cases h
abbrev Gu:V->Bool
 | wn _=>true
 |_=>false
abbrev fh:V->Bool
 | wn i=>decide (0<=i)&&decide (i<=1000000000)
 |_=>false
def aR (hk:1<=k)(ht:tyName v H=some t)(q:Q (.bl (Gu v)) H):ae tab R k 9 [v] H Q E:=by
 delta lj;right;cases fj ht
 all_goals
  refine jM ht rfl ?_;right
  first
   |exact q
   |(refine jM ht rfl ?_;right;exact q)
def cD (ro:Ro K R)(hk:2<=k)(ht:tyName v H=some t)(q:Q (.bl (fh v)) H):ae tab R k 10 [v] H Q E:=by
 delta iA;right;refine aR nofun ht ?_;cases fj ht
 case int i=>
  right;refine aJ (λh0=>?_) (λh0=>?_)
  .left;simp only[ro.g_BOUND];right;have e:fh (wn i)=decide (i<=1000000000):=by simp[fh,h0]
   rw[e]at q;exact q
  .right;have e:fh (wn i)=false:=by simp[fh,h0]
   rw[e]at q;exact q
 all_goals
  right;exact q
abbrev bad (xs:List V):Option Int:=if xs.length<1\/60<xs.length then some (-1) else(xs.findIdx? λx=>!fh x).map λn=>(n:Int)
def HU (h:¬ (1<=xs.length/\xs.length<=60)):bad xs=some (-1):=by
 unfold bad;rw[if_pos nofun]
def Im {j:Nat}{x:V}(h:1<=xs.length/\xs.length<=60)(hx:xs[j]? =some x)(hc:fh x=false)(hb:∀ i y,i<j->xs[i]? =some y->fh y=true):bad xs=some j:=by
 unfold bad;rw[if_neg nofun];have:xs.findIdx? (λx=>!fh x)=some j:=by
  rw[List.findIdx?_eq_some_iff_getElem];obtain⟨hj,e⟩:=ul.mp hx;refine⟨hj,by rw[e,hc];rfl,λi hi=>?_⟩;rw[hb i xs[i] hi (lw _)]
  decide
 rw[this]
 rfl
def qW (h:1<=xs.length/\xs.length<=60)(hb:∀ (i:Nat) y,xs[i]? =some y->fh y=true):bad xs=none:=by
 unfold bad;rw[if_neg nofun];have:xs.findIdx? (λx=>!fh x)=none:=by
  rw[List.findIdx?_eq_none_iff];intro x hx;obtain⟨i,hi⟩:=List.mem_iff_getElem?.mp hx;rw[hb i x hi]
  rfl
 rw[this]
 rfl
def DF (h:bad xs=none):1<=xs.length/\xs.length<=60:=by
 unfold bad at h
 split at h
 .cases h
 .omega
def vq {x:V}:(tz (Int.toNat (n:Int)) [x]).flatten=tz n x:=by
 rw[sK]
 induction n with
 |zero=>rfl
 |succ n ih=>rw[replicate_succ,flatten_cons,ih];rfl
abbrev j3 (C:Addr)(fs:List (Str×V))(x:Addr)(fr:Bool):az:=ex λd:Addr=>qG (pt x (.exc C (some d) fs fr)) (pt d (.own x))
def jX {C x:Addr}{fs:List (Str×V)}{fr:Bool}(s:Sep (pt x (.exc C (some d) fs fr)::pt d (.own x)::O) H):Sep (j3 C fs x fr::O) H:=Sep.Iy.mpr ⟨d,Sep.star.mpr s⟩
def Fc {C x:Addr}{fs:List (Str×V)}{fr:Bool}(s:Sep (j3 C fs x fr::O) H):∃ d,Sep (pt x (.exc C (some d) fs fr)::pt d (.own x)::O) H:=let⟨d,s⟩:=Sep.Iy.mp s;⟨d,Sep.star.mp s⟩
def ff {x:Addr}(hk:1<=k)(s:Sep (pt x (.exc (R.cad 1) none [] true)::O) H)(q:∀ d H',Sep (pt x (.exc (R.cad 1) (some d) [("at",v)] true)::pt d (.own x)::O) H'->Q wr H'):ae tab R k 0 [wf x,v] H Q E:=by
 delta cM;right;refine⟨_,1,_,_,_,_,rfl,by grind,rfl,?_⟩;right;refine vQ s rfl rfl (λd H hs=>?_);right;exact q d H hs
def D7 (ro:Ro K R)(hk:3<=k)(s:Sep (pt a (wv xs)::tys xs::O) H)(q0:bad xs=none->∀ H',Sep (pt a (wv xs)::tys xs::O) H'->Q wr H')
  (q1:∀ at',bad xs=some at'->∀ x H',Sep (j3 (R.cad 1) [("at",wn at')] x false::pt a (wv xs)::tys xs::O) H'->E x H'):ae tab R k 82 [wf a] H Q E:=by
 delta gC;right;refine jM (t:="list") (Kn s.at) rfl ?_;right
 by_cases hl:1<=xs.length/\xs.length<=60
 .refine aV (decide_eq_true nofun) ?_;left;simp only[ro.g_MOST_CELLS];right;refine aV (c:=decide ((xs.length:Int)<=60)) (decide_eq_true nofun) ?_;right;refine vJ (xs:=xs) (λj U H=>∃ y z,U=[some (wf a),y,z]/\(∀ i w,i<j->xs[i]? =some w->fh w=true)/\Sep (pt a (wv xs)::tys xs::O) H) ?_ ?_ ?_ ?_
  .exact⟨none,none,rfl,λi w h=>absurd h nofun,s⟩
  .rintro j U H ⟨y,z,rfl,_,hs⟩;exact hs.at
  .rintro j x T U H hx ⟨y,z,rfl,hb,hs⟩ hT;have hs1:=hs.mY (xs:=[wn j,x]) hT;left;refine⟨T,_,rfl,.inl (bp.of hs1.atT),rfl,?_⟩;right;obtain⟨t,ht⟩:=(hs1.pull .k2).Ja x (db hx);refine cD ro nofun ht ?_;right;refine bY (λhc=>?_) (λhc=>?_)
   .right;refine⟨_,_,rfl,λi w hi hw=>?_,hs1.drop⟩
    by_cases e:i=j
    .subst e;rw[hx]at hw;cases hw;exact hc
    .exact hb i w nofun hw
   .right;intro p hp;refine ff nofun (hs1.drop.new hp) (λd H hs=>?_);right;refine fS hs (by ac_rfl) rfl (λH hs=>?_);exact q1 _ (Im hl hx hc hb) p H (jX hs)
  .rintro U H ⟨y,z,rfl,hb,hs⟩;right;exact q0 (qW hl λi w hi=>hb i w (ul.mp hi).1 hi) _ hs
 .have fin:∀ p,H p=none->ae tab R (k-1) 0 [wf p,wn (-1)] (upd H p (.exc (R.cad 1) none [] true)) (λv H2=>v=wr/\∃ b i dx fs,wf p=wf b/\H2 b=some (.exc (R.cad i) dx fs true)/\tab.xc.contains i=true/\E b (upd H2 b (.exc (R.cad i) dx fs false))) E:=by
   intro p hp;refine ff nofun (s.new hp) (λd H hs=>?_);refine⟨rfl,?_⟩;refine fS (G:=⟨tab,R,ae tab R 0,true⟩) hs (by ac_rfl) rfl (λH hs=>?_);exact q1 _ (HU hl) p H (jX hs)
  by_cases h1:1<=xs.length
  .refine aV (decide_eq_true nofun) ?_;left;simp only[ro.g_MOST_CELLS];right;refine ax (c:=decide ((xs.length:Int)<=60)) (decide_eq_false nofun) ?_;right;exact fin
  .refine ax (decide_eq_false nofun) ?_;right;exact fin
abbrev aQ (C p:Addr)(cs ws:List V):az:=ex λx:Addr×Addr×Addr=>qG (pt p (wP C x.1 [("contents",wf x.2.1),("permits",wf x.2.2)])) (qG (pt x.1 (.own p)) (qG (pt x.2.1 (wv cs)) (pt x.2.2 (wv ws))))
def bz {C p:Addr}{cs ws:List V}(s:Sep (aQ C p cs ws::O) H):∃ dx a b,Sep (pt p (wP C dx [("contents",wf a),("permits",wf b)])::pt dx (.own p)::pt a (wv cs)::pt b (wv ws)::O) H:=by
 obtain⟨⟨dx,a,b⟩,s⟩:=Sep.Iy.mp s;refine⟨dx,a,b,?_⟩;have s1:=Sep.star.mp s;have s2:=Sep.star.mp (s1.pull .k1);have s3:=Sep.star.mp (s2.pull .k1);exact((s3.pull .k2).pull .k3)
def cx {C p b:Addr}{cs ws:List V}(s:Sep (pt p (wP C dx [("contents",wf a),("permits",wf b)])::pt dx (.own p)::pt a (wv cs)::pt b (wv ws)::O) H):Sep (aQ C p cs ws::O) H:=by
 refine Sep.Iy.mpr ⟨(dx,a,b),Sep.star.mpr ?_⟩;have s3:=Sep.star.mpr ((s.pull .k3).pull .k3);have s2:=Sep.star.mpr (s3.pull .k2);exact s2.pull .k1
def pq {p:Addr}(ro:Ro K R)(hk:4<=k)(s:Sep (pt p (wP (R.cad 27) dx [])::pt dx (.own p)::pt a (wv xs)::tys xs::O) H)
  (q0:bad xs=none->∀ H',Sep (aQ (R.cad 27) p xs (tz xs.length (wp "open"))::pt a (wv xs)::tys xs::O) H'->Q wr H')
  (q1:∀ at',bad xs=some at'->∀ x H',Sep (j3 (R.cad 1) [("at",wn at')] x false::pt a (wv xs)::tys xs::O) H'->E x H'):ae tab R k 85 [wf p,wf a] H Q E:=by
 delta dQ;right;refine D7 (O:=pt p (wP (R.cad 27) dx [])::pt dx (.own p)::O) ro nofun (s.sub (by ac_nf)) (λhb H hs=>?_) (λat' hb x H hs=>?_)
 .have hl:=DF hb;right;rename_i l H1 hs1 H2 hs2 m H3 hs3 w H4 hs4 H5 hs5;rw[vq]at hs5;exact q0 hb _ (cx (hs5.sub (by ac_nf)))
 .exact q1 at' hb x H (hs.sub (by ac_nf))
def fZ {C p:Addr}{cs ws:List V}(s:Sep O H)(h:ah (aQ C p cs ws) O Δ):∃ dx a b,H p=some (wP C dx [("contents",wf a),("permits",wf b)]):=by
 obtain⟨dx,a,b,hs⟩:=bz (s.pull h);exact⟨dx,a,b,hs.at⟩
def tZ {p:Addr}{cs ws:List V}(hk:1<=k)(s:Sep (aQ (R.cad 27) p cs ws::O) H)(q:Q (wn cs.length) H):ae tab R k 86 [wf p] H Q E:=by
 obtain⟨dx,a,b,hs⟩:=bz s;delta ip;right;exact q
def GZ {p:Addr}{cs ws:List V}(hk:1<=k)(s:Sep (aQ (R.cad 27) p cs ws::O) H)(q:∀ l H',Sep (pt l (wv cs)::aQ (R.cad 27) p cs ws::O) H'->Q (wf l) H'):ae tab R k 87 [wf p] H Q E:=by
 obtain⟨dx,a,b,hs⟩:=bz s;delta iN;right;rename_i l H1 hs1;exact q l H1 ((cx (hs1.sub (by ac_nf))).pull .k1)
def yS {p:Addr}{cs ws:List V}(hk:1<=k)(s:Sep (aQ (R.cad 27) p cs ws::O) H)(q:∀ l H',Sep (pt l (wv ws)::aQ (R.cad 27) p cs ws::O) H'->Q (wf l) H'):ae tab R k 88 [wf p] H Q E:=by
 obtain⟨dx,a,b,hs⟩:=bz s;delta eU;right;rename_i l H1 hs1;exact q l H1 ((cx (hs1.sub (by ac_nf))).pull .k1)
def aY {xs:List α}{x:α}(h0:0<=i)(hx:xs[i.toNat]? =some x):lS xs i=some x:=by
 have h:=L2.pR hx
 rwa [Int.toNat_of_nonneg h0]at h
abbrev ai (ws:List Str)(d:Str)(i:Int):Bool:=decide (0<=i)&&(decide (i<ws.length)&&(match ws[i.toNat]? with
 |some w=>if w="look" then d =="look" else w =="open"
 |none=>false))
def ak {d:Str}(h:ai ws d i=true):0<=i/\i<ws.length:=by
 unfold ai at h;rw[ol,ol,decide_eq_true_eq,decide_eq_true_eq]at h;exact⟨h.1,h.2.1⟩
def Bz {p:Addr}{cs:List V}{d:Str}(hk:2<=k)(s:Sep (aQ (R.cad 27) p cs (ws.map wp)::O) H)(hl:cs.length=ws.length)(q:Q (.bl (ai ws d i)) H):ae tab R k 90 [wf p,wp d,wn i] H Q E:=by
 delta km;right;refine aJ (λh0=>?_) (λh0=>?_)
 .obtain⟨dx,a,b,e⟩:=fZ s .e;right;refine⟨_,27,_,_,_,rfl,e,rfl,rfl,?_⟩;left;refine tZ nofun s ?_;right;refine aJ (λh1=>?_) (λh1=>?_)
  .obtain⟨dx,a,b,hs⟩:=bz s;have h2:i.toNat<ws.length:=by omega
   have e1:ws[i.toNat]? =some ws[i.toNat]:=lw h2;generalize ws[i.toNat]=w at e1;have e2:(ws.map wp)[i.toNat]? =some (wp w):=by rw[io,e1];rfl
   have e3:ai ws d i=(if w="look" then d =="look" else w =="open"):=by
    unfold ai;rw[e1,decide_eq_true h0,decide_eq_true (by omega:i<ws.length)]
    rfl
   rw[e3]at q;right;refine aI (by grind) (aY h0 e2) ?_;right;refine bY (λhw=>?_) (λhw=>?_)
   .have hw:w="look":=by simpa[dw] using hw
    rw[if_pos hw]at q;right;exact q
   .have hw:¬ w="look":=by simpa[dw] using hw
    rw[if_neg hw]at q;right;refine aI (by grind) (aY h0 e2) ?_;right;exact q
  .have e3:ai ws d i=false:=by
    unfold ai;rw[decide_eq_false (by omega:¬ i<ws.length),Bool.false_and,Bool.and_false]
   rw[e3]at q;right;exact q
 .have e3:ai ws d i=false:=by
   unfold ai;rw[decide_eq_false h0,Bool.false_and]
  rw[e3]at q;right;exact q
def fA {x:Addr}{w:V}(hk:1<=k)(s:Sep (pt x (.exc (R.cad 3) none [] true)::O) H)(q:∀ d H',Sep (pt x (.exc (R.cad 3) (some d) [("deed",v),("cell",w)] true)::pt d (.own x)::O) H'->Q wr H'):ae tab R k 2 [wf x,v,w] H Q E:=by
 delta eC;right;refine⟨_,3,_,_,_,_,rfl,by grind,rfl,?_⟩;right;refine vQ s rfl rfl (λd H hs=>?_);right;refine Cj hs (by ac_rfl) rfl rfl (re rfl) rfl (λH hs=>?_);right;exact q d H hs
def Fu {p:Addr}{cs:List V}(hk:3<=k)(s:Sep (aQ (R.cad 27) p cs (ws.map wp)::O) H)(hl:cs.length=ws.length)(q0:ai ws "look" i=true->∀ x,cs[i.toNat]? =some x->Q x H)
  (q1:ai ws "look" i=false->∀ x H',Sep (j3 (R.cad 3) [("deed",wp "look"),("cell",wn i)] x false::aQ (R.cad 27) p cs (ws.map wp)::O) H'->E x H'):ae tab R k 91 [wf p,wn i] H Q E:=by
 delta iT;obtain⟨dx,a,b,e⟩:=fZ s .e;right;refine⟨_,27,_,_,_,rfl,e,rfl,rfl,?_⟩;left;refine Bz nofun s hl ?_;right;refine bY (λhm=>?_) (λhm=>?_)
 .obtain⟨h0,h1⟩:=ak hm;obtain⟨dx,a,b,hs⟩:=bz s;have h2:i.toNat<cs.length:=by omega
  have e1:cs[i.toNat]? =some cs[i.toNat]:=lw h2;right;refine aI (by grind) (aY h0 e1) ?_;exact q0 hm _ e1
 .right;intro x hx;refine fA nofun (s.new hx) (λd H hs=>?_);right;refine fS hs (by ac_rfl) rfl (λH hs=>?_);exact q1 hm x H (jX hs)
def JA {p:Addr}{cs:List V}(hk:3<=k)(s:Sep (aQ (R.cad 27) p cs (ws.map wp)::O) H)(hl:cs.length=ws.length)(q0:ai ws "put" i=true->∀ H',Sep (aQ (R.cad 27) p (cs.set i.toNat v) (ws.map wp)::O) H'->Q wr H')
  (q1:ai ws "put" i=false->∀ x H',Sep (j3 (R.cad 3) [("deed",wp "put"),("cell",wn i)] x false::aQ (R.cad 27) p cs (ws.map wp)::O) H'->E x H'):ae tab R k 92 [wf p,wn i,v] H Q E:=by
 delta jN;obtain⟨dx,a,b,e⟩:=fZ s .e;right;refine⟨_,27,_,_,_,rfl,e,rfl,rfl,?_⟩;left;refine Bz nofun s hl ?_;right;refine bY (λhm=>?_) (λhm=>?_)
 .obtain⟨h0,h1⟩:=ak hm;obtain⟨dx,a,b,hs⟩:=bz s;right;refine cI hs (by ac_rfl) (bT h0 nofun) rfl (λH hs=>?_);right;exact q0 hm H (cx hs)
 .right;intro x hx;refine fA nofun (s.new hx) (λd H hs=>?_);right;refine fS hs (by ac_rfl) rfl (λH hs=>?_);exact q1 hm x H (jX hs)
def mG {x:Addr}{w z:V}(hk:1<=k)(s:Sep (pt x (.exc (R.cad 2) none [] true)::O) H)(q:∀ d H',Sep (pt x (.exc (R.cad 2) (some d) [("low",v),("behind",w),("word",z)] true)::pt d (.own x)::O) H'->Q wr H'):ae tab R k 1 [wf x,v,w,z] H Q E:=by
 delta cV;right;refine⟨_,2,_,_,_,_,rfl,by grind,rfl,?_⟩;right;refine vQ s rfl rfl (λd H hs=>?_);right;refine Cj hs (by ac_rfl) rfl rfl (re rfl) rfl (λH hs=>?_);right;refine Cj hs (by ac_rfl) rfl rfl (re rfl) rfl (λH hs=>?_);right;exact q d H hs
abbrev fR (w:Str):Bool:="open" ==w||("look" ==w||("shut" ==w||false))
abbrev qF:V->Bool
 | wp w=>fR w
 |_=>false
def tJ (ro:Ro K R)(hk:1<=k)(ht:tyName v H=some t)(q:Q (.bl (qF v)) H):ae tab R k 83 [v] H Q E:=by
 delta my;right;cases fj ht
 case str x=>
  right;obtain⟨a,hg,hs⟩:=ro.g_LEAVES;simp only[hg];right;exact gh (xs:=[wp "open",wp "look",wp "shut"]) (ro.hK▸hs _) rfl rfl q
 all_goals
  refine jM ht rfl ?_;right;exact q
abbrev bj (n:Nat):V->V->Bool
 | wn a,wn b=>decide (0<=a)&&(decide (a<=b)&&decide (b<=n))
 |_,_=>false
def rZ {w:V}{u:String}(hk:2<=k)(ht:tyName v H=some t)(hu:tyName w H=some u)(q:Q (.bl (bj n v w)) H):ae tab R k 84 [v,w,wn n] H Q E:=by
 delta jR;right;refine aR nofun ht ?_;cases fj ht
 case int i=>
  right;refine aR nofun hu ?_;cases fj hu
  case int j=>
   right;refine aJ (λh0=>?_) (λh0=>?_)
   .right;refine aJ (λh1=>?_) (λh1=>?_)
    .right;have e:bj n (wn i) (wn j)=decide (j<=n):=by simp[bj,h0,h1]
     rw[e]at q;exact q
    .right;have e:bj n (wn i) (wn j)=false:=by simp[bj,h1]
     rw[e]at q;exact q
   .right;have e:bj n (wn i) (wn j)=false:=by simp[bj,h0]
    rw[e]at q;exact q
  all_goals
   right;exact q
 all_goals
  right;exact q
abbrev kG (w:Str)(ws:List Str)(lo:Nat):Nat->List Str
 |0=>ws
 |n+1=>(kG w ws lo n).set (lo+n) w
def ma {w:Str}{ws:List Str}{lo:Nat}:∀ n,(kG w ws lo n).length=ws.length
 |0=>rfl
 |n+1=>by rw[kG,length_set,ma n]
def CG {p:Addr}{cs:List V}{v1 v2 v3:V}{t1 t2 t3:String}(ro:Ro K R)(hk:3<=k)(s:Sep (aQ (R.cad 27) p cs (ws.map wp)::O) H)(hl:cs.length=ws.length)(h60:ws.length<=60)
  (ht1:tyName v1 H=some t1) (ht2:tyName v2 H=some t2) (ht3:tyName v3 H=some t3)
  (q0:∀ a b w,v1=wn a->v2=wn b->v3=wp w->bj ws.length v1 v2=true->fR w=true->∀ H',Sep (aQ (R.cad 27) p cs ((kG w ws a.toNat (b-a).toNat).map wp)::O) H'->Q wr H')
  (q1:(bj ws.length v1 v2&&qF v3)=false->∀ x H',Sep (j3 (R.cad 2) [("low",v1),("behind",v2),("word",v3)] x false::aQ (R.cad 27) p cs (ws.map wp)::O) H'->E x H'):ae tab R k 89 [wf p,v1,v2,v3] H Q E:=by
 delta gB;obtain⟨dx,a,b,e⟩:=fZ s .e;right;refine⟨_,27,_,_,_,rfl,e,rfl,rfl,?_⟩;left;refine tZ nofun s ?_;left;rw[hl];refine rZ nofun ht1 ht2 ?_;right;have fin:(bj ws.length v1 v2&&qF v3)=false->∀ x,H x=none->ae tab R (k-1) 1 [wf x,v1,v2,v3] (upd H x (.exc (R.cad 2) none [] true)) (λv H2=>v=wr/\∃ b i dx fs,wf x=wf b/\H2 b=some (.exc (R.cad i) dx fs true)/\tab.xc.contains i=true/\E b (upd H2 b (.exc (R.cad i) dx fs false))) E:=by
  intro hb x hx;refine mG nofun (s.new hx) (λd H hs=>?_);refine⟨rfl,?_⟩;refine fS (G:=⟨tab,R,ae tab R 0,true⟩) hs (by ac_rfl) rfl (λH hs=>?_);exact q1 hb x H (jX hs)
 refine bY (λhw=>?_) (λhw=>?_)
 .right;refine tJ ro nofun ht3 ?_;right;refine bY (λhv=>?_) (λhv=>?_)
  .obtain⟨i,j,rfl,rfl⟩:∃ i j,v1=wn i/\v2=wn j:=by
    unfold bj at hw
    split at hw
    .exact⟨_,_,rfl,rfl⟩
    .cases hw
   obtain⟨w,rfl⟩:∃ w,v3=wp w:=by
    unfold qF at hv
    split at hv
    .exact⟨_,rfl⟩
    .cases hv
   have hw':0<=i/\i<=j/\j<=ws.length:=by simpa[bj] using hw
   right;refine dh (λn U H=>∃ y,U=[some (wf p),some (wn i),some (wn j),some (wp w),y]/\Sep (aQ (R.cad 27) p cs ((kG w ws i.toNat n).map wp)::O) H) ?_ ?_ ?_
   .exact⟨none,rfl,s⟩
   .rintro n U H hn ⟨y,rfl,hs⟩;obtain⟨dx,a,b,hs⟩:=bz hs;right;refine cI hs (by ac_rfl) (bT nofun (by rw[ci,ma];omega)) rfl (λH hs=>?_);right;refine⟨_,rfl,?_⟩;have e:((kG w ws i.toNat n).map wp).set (i+(n:Int)).toNat (wp w)=(kG w ws i.toNat (n+1)).map wp:=by
     rw[kG,List.map_set,show(i+(n:Int)).toNat=i.toNat+n by omega]
    rw[e]at hs;exact cx hs
   .rintro U H ⟨y,rfl,hs⟩;right;exact q0 i j w rfl rfl rfl hw hv H hs
  .right;exact fin (by rw[hv,Bool.and_false])
 .right;exact fin (by rw[hw,Bool.false_and])
def fg:(10:Int) ^ Int.toNat 9=1000000000:=by decide
local macro_rules| `(tactic|walk_at "dr")=>`(tactic|(refine' ux ?k ?s ?m ?a ?b (λr H hr0 hr1 hs=>?_);(case s=>walk_at "sp");(case k=>exact nofun);(case m=>omega);(case a=>walk_at "ar");(case b=>walk_at "ar")))
local macro_rules| `(tactic|walk_at "gd")=>`(tactic|(walk_at "w";repeat(first|(walk_at "st";walk_at "w")|(walk_at "dr";walk_at "w"))))
def yw (hk:2<=k)(s:Sep (hand h m::O) H)(hm:m<=1099511000000)(q:∀ i H',0<=i->i<=1000000000->Sep (hand h (m+3)::O) H'->Q (wn i) H'):ae tab R k 97 [wf h] H Q E:=by
 delta eX;walk_at "gd";rename_i r1 H1 r10 r11 z1 p H2 z2;clear s z1;rcases(by omega:r1=0\/r1=1\/r1=2\/r1=3) with rfl|rfl|rfl|rfl
 .walk_at "gd";rename_i f H3 f0 f1 z3;exact q _ _ f0 nofun (aw (z3.sub (Γ':=hand h (m+1+1)::O) (by ac_nf)) nofun)
 .walk_at "gd";rename_i f H3 f0 f1 z3;exact q _ _ (by rw[fg];omega) (by rw[fg];omega) (aw (z3.sub (Γ':=hand h (m+1+1)::O) (by ac_nf)) nofun)
 .walk_at "gd";rename_i f H3 f0 f1 z3;exact q _ _ f0 nofun (aw (z3.sub (Γ':=hand h (m+1+1)::O) (by ac_nf)) nofun)
 .walk_at "gd";rename_i f H3 f0 f1 z3 r' H5 r0' r1' z5;rw[fg];exact q _ _ nofun nofun (aw (z5.sub (Γ':=hand h (m+1+1+1)::O) (by ac_nf)) nofun)
abbrev cA (ns:List Int):Prop:=∀ i ∈ ns,0<=i/\i<=1000000000
def uI (h:cA ns)(h0:0<=i)(h1:i<=1000000000):cA (ns++[i]):=λj hj=>by
 rcases mem_append.mp hj with hj|hj
 .exact h j hj
 .rw[mem_singleton.mp hj];exact⟨h0,h1⟩
def nO (h:cA ns)(h0:0<=i)(h1:i<=1000000000):cA (ns.set n i):=λj hj=>by
 rcases List.mem_or_eq_of_mem_set hj with hj|rfl
 .exact h j hj
 .exact⟨h0,h1⟩
def C3 {M:Int}(hk:3<=k)(s:Sep (hand h m::O) H)(hm:m<=1099510000000)(hM0:1<=M)(hM1:M<=60)(q:∀ p ns H',1<=ns.length->(ns.length:Int)<=M->cA ns->Sep (pt p (wv (ns.map wn))::hand h (m+300)::O) H'->Q (wf p) H'):ae tab R k 98 [wf h,wn M] H Q E:=by
 delta iB;walk_at "gd";rename_i t0 H0 z0 r H1 r0 r1 hs1;obtain⟨v,hv,hmem⟩:=dJ (xs:=[wn 3,wn ((10:Int) ^ Int.toNat 5)]) r0 (by simpa using r1);refine aI (by grind) hv ?_;obtain⟨f,rfl,f0,f1⟩:∃ f:Int,v=wn f/\1<=f/\f<=100000:=by
  simp only[nw,not_mem_nil,or_false]at hmem;rcases hmem with rfl|rfl
  .exact⟨3,rfl,by decide,by decide⟩
  .exact⟨_,rfl,by decide,by decide⟩
 have hs1:Sep (hand h (m+1)::O) H1:=hs1.sub (by ac_nf);clear s z0;walk_at "gd";rename_i mn H2 mn0 mn1 hs2;refine vb (n:=(1+mn).toNat) nofun (λD ys H=>(∃ ns,ys=ns.map wn/\cA ns)/\Sep (pt D (wv ys)::hand h (m+2+((ys.length:Nat):Int))::O) H) (λD hD=>⟨⟨[],rfl,λi hi=>absurd hi (by simp)⟩,(aw ((hs2.new (o:=wv []) hD).pull .k1) (by simp;omega)).pull .k1⟩) (λD ys H hl hI=>?_) (λD ys H hl hI=>?_)
 .obtain⟨⟨ns,e,hc⟩,hs⟩:=hI;walk_at "gd";rename_i i H3 i0 i1 z3;refine rz.mk (z3.get (by symm)) nofun ⟨⟨ns++[i],by rw[e];simp,uI hc i0 nofun⟩,?_⟩;have hs7:=(z3.pull (A:=pt D (wv ys)) (by symm)).set (o':=wv (ys++[wn i])) rfl;refine(aw (hs7.pull .k1) ?_).pull .k1;rw[cr,ge]
  omega
 .obtain⟨⟨ns,rfl,hc⟩,hs⟩:=hI;rw[ci]at hl;refine q D ns H nofun nofun hc ?_;exact(aw (hs.pull .k1) (by rw[ci];omega)).pull .k1
abbrev bx (f:α->List az):az:=⟨λH D=>∃ x,bI (f x) H D,λH H' D ⟨x,h⟩ k t=>⟨x,bI.st h k t⟩,λH D D' ⟨x,h⟩ k=>⟨x,bI.up h k⟩⟩
def iQ:∀ {O Δ:List az}{D:Addr->Prop},bI (O++Δ) H D ↔ ∃ D1 D2:Addr->Prop,(∀ a,D1 a->D a)/\(∀ a,D2 a->D a)/\(∀ a,D1 a->D2 a->False)/\bI O H D1/\bI Δ H D2
 | [],Δ,D=>⟨λh=>⟨λ_=>False,D,λ_ z=>z.elim,λ_ z=>z,λ_ z _=>z,True.intro,h⟩,λ⟨_,_,_,s2,_,_,h⟩=>bI.up h s2⟩
 |A::O,Δ,D=>by
  constructor
  .rintro⟨E1,E2,s1,s2,dj,hA,h⟩;obtain⟨F1,F2,t1,t2,dk,h1,h2⟩:=iQ.mp h;refine⟨λa=>E1 a\/F1 a,F2,λa z=>z.elim (s1 a) λz=>s2 a (t1 a z),λa z=>s2 a (t2 a z),λa z w=>z.elim (λz=>dj a z (t2 a w)) λz=>dk a z w,?_,h2⟩;exact⟨E1,F1,λa z=>.inl z,λa z=>.inr z,λa z w=>dj a z (t1 a w),hA,h1⟩
  .rintro⟨D1,D2,s1,s2,dj,⟨E1,E2,t1,t2,dk,hA,h1⟩,h2⟩;refine⟨E1,λa=>E2 a\/D2 a,λa z=>s1 a (t1 a z),λa z=>z.elim (λz=>s1 a (t2 a z)) (s2 a),λa z w=>w.elim (dk a z) λw=>dj a (t1 a z) w,hA,?_⟩;exact iQ.mpr ⟨E2,D2,λa z=>.inl z,λa z=>.inr z,λa z w=>dj a (t2 a z) w,h1,h2⟩
def gY {f:α->List az}(s:Sep (bx f::O) H):∃ x,Sep (f x++O) H:=by
 obtain⟨D,k,D1,D2,s1,s2,dj,⟨x,h1⟩,h2⟩:=s;exact⟨x,D,k,iQ.mpr ⟨D1,D2,s1,s2,dj,h1,h2⟩⟩
def eg {f:α->List az}(x:α)(s:Sep (f x++O) H):Sep (bx f::O) H:=by
 obtain⟨D,k,h⟩:=s;obtain⟨D1,D2,s1,s2,dj,h1,h2⟩:=iQ.mp h;exact⟨D,k,D1,D2,s1,s2,dj,⟨x,h1⟩,h2⟩
abbrev kY:List Str:=["here","there","left","way","sign","met"]
abbrev yK:List Key:=[.inr "here",.inr "there",.inr "left",.inr "way",.inr "sign",.inr "met"]
abbrev fN:V->Bool
 | wn i=>decide (-1000000000<=i)&&decide (i<=1000000000)
 |_=>false
abbrev nh (a b:Int):V->Bool
 | wn i=>i ==a||i ==b
 |_=>false
abbrev bJ:Nat->V->Bool
 |0,v=>fN v
 |1,v=>fN v
 |3,v=>nh 1 (-1) v
 |5,v=>nh 0 1 v
 |_,v=>fh v
def fw (ro:Ro K R)(hk:2<=k)(ht:tyName v H=some t)(q:Q (.bl (fN v)) H):ae tab R k 12 [v] H Q E:=by
 delta ke;right;refine aR nofun ht ?_;cases fj ht
 case int i=>
  left;refine aV rfl ?_;left;simp only[ro.g_BOUND];right;refine aJ (λh0=>?_) (λh0=>?_)
  .left;simp only[ro.g_BOUND];right;have e:fN (wn i)=decide (i<=1000000000):=by simp[fN,h0]
   rw[e]at q;exact q
  .right;have e:fN (wn i)=false:=by simp[fN,h0]
   rw[e]at q;exact q
 all_goals
  right;exact q
def lG {j:Nat}{x:Str}(h:kY[j]? =some x):(j=0/\x="here")\/(j=1/\x="there")\/(j=2/\x="left")\/(j=3/\x="way")\/(j=4/\x="sign")\/(j=5/\x="met"):=by
 rcases j with _|_|_|_|_|_|j
 .cases h;exact .inl ⟨rfl,rfl⟩
 .cases h;exact .inr (.inl ⟨rfl,rfl⟩)
 .cases h;exact .inr (.inr (.inl ⟨rfl,rfl⟩))
 .cases h;exact .inr (.inr (.inr (.inl ⟨rfl,rfl⟩)))
 .cases h;exact .inr (.inr (.inr (.inr (.inl ⟨rfl,rfl⟩))))
 .cases h;exact .inr (.inr (.inr (.inr (.inr ⟨rfl,rfl⟩))))
 .exact absurd h (by simp[kY])
local macro_rules| `(tactic|walk_at "sc")=>`(tactic|first|(refine aV (by decide+kernel) ?_;walk_at "go")|(refine ax (by decide+kernel) ?_;walk_at "go"))
def ub {j:Nat}{x:Str}(ro:Ro K R)(hk:3<=k)(hj:kY[j]? =some x)(ht:tyName v H=some t)(q:Q (.bl (bJ j v)) H):ae tab R k 13 [wp x,v] H Q E:=by
 delta zA;rcases lG hj with⟨rfl,rfl⟩|⟨rfl,rfl⟩|⟨rfl,rfl⟩|⟨rfl,rfl⟩|⟨rfl,rfl⟩|⟨rfl,rfl⟩
 all_goals right
 all_goals repeat walk_at "sc"
 .exact fw ro nofun ht q
 .exact fw ro nofun ht q
 .exact cD ro nofun ht q
 .refine aR nofun ht ?_;cases fj ht
  case int i=>
   right;refine aS (λh0=>?_) (λh0=>?_)
   .right;have e:bJ 3 (wn i)=true:=by simp[bJ,nh,h0]
    rw[e]at q;exact q
   .right;have e:bJ 3 (wn i)=(i == -1):=by simp[bJ,nh,h0]
    rw[e]at q;exact q
  all_goals
   right;exact q
 .exact cD ro nofun ht q
 .refine aR nofun ht ?_;cases fj ht
  case int i=>
   right;refine aS (λh0=>?_) (λh0=>?_)
   .right;have e:bJ 5 (wn i)=true:=by simp[bJ,nh,h0]
    rw[e]at q;exact q
   .right;have e:bJ 5 (wn i)=(i ==1):=by simp[bJ,nh,h0]
    rw[e]at q;exact q
  all_goals
   right;exact q
abbrev boxes (R:Rt)(b:Addr)(ns:List Int):az:=bx λx:Addr×Addr=>[pt b (wP (R.cad 10) x.1 [("numbers",wf x.2)]),pt x.1 (.own b),pt x.2 (.dK (yK.zip (ns.map wn))),pu (ns.length=6)]
def il {b:Addr}(s:Sep (boxes R b ns::O) H):∃ dx d,ns.length=6/\Sep (pt b (wP (R.cad 10) dx [("numbers",wf d)])::pt dx (.own b)::pt d (.dK (yK.zip (ns.map wn)))::O) H:=by
 obtain⟨⟨dx,d⟩,s⟩:=gY s;have s:Sep (pt b (wP (R.cad 10) dx [("numbers",wf d)])::pt dx (.own b)::pt d (.dK (yK.zip (ns.map wn)))::pu (ns.length=6)::O) H:=s;have p:=(s.pull .k3).pure;exact⟨dx,d,p,(s.pull .k3).drop⟩
def hJ {b:Addr}(hn:ns.length=6)(s:Sep (pt b (wP (R.cad 10) dx [("numbers",wf d)])::pt dx (.own b)::pt d (.dK (yK.zip (ns.map wn)))::O) H):Sep (boxes R b ns::O) H:=
 eg (dx,d) (Sep.push .k3 (Sep.jq hn s))
def six {ns:List α}(h:ns.length=6):∃ a b c d e f,ns=[a,b,c,d,e,f]:=by
 match ns,h with
 | [a,b,c,d,e,f],_=>exact⟨a,b,c,d,e,f,rfl⟩
def vR {j:Nat}{x:Str}(hn:ns.length=6)(hj:kY[j]? =some x):∃ i,ns[j]? =some i/\gi (yK.zip (ns.map wn)) (.inr x)=some (wn i):=by
 obtain⟨a,b,c,d,e,f,rfl⟩:=six hn;rcases lG hj with⟨rfl,rfl⟩|⟨rfl,rfl⟩|⟨rfl,rfl⟩|⟨rfl,rfl⟩|⟨rfl,rfl⟩|⟨rfl,rfl⟩<;>exact⟨_,rfl,rfl⟩
def Dv {b:Addr}(ro:Ro K R)(hk:1<=k)(s:Sep (boxes R b ns::O) H)(q:∀ t H',Sep (tu t (ns.map wn)::boxes R b ns::O) H'->Q (wf t) H'):ae tab R k 17 [wf b] H Q E:=by
 obtain⟨dx,d,hn,s⟩:=il s;delta iS;right;obtain⟨a,hg,hS⟩:=ro.g_NAMES;simp only[hg];rw[<-ro.hK]at hS;right;refine Jq (hS H) ?_;refine Io (xs:=kY.map wp) (re rfl) (λD ys H=>ys=(ns.map wn).take ys.length/\Sep (pt D (wv ys)::pt b (wP (R.cad 10) dx [("numbers",wf d)])::pt dx (.own b)::pt d (.dK (yK.zip (ns.map wn)))::O) H) ?_ ?_ ?_ ?_
 .intro D ys H _;exact hS H
 .intro D hD;exact⟨rfl,s.new hD⟩
 .rintro D ys x H' hx ⟨e,hs⟩;rw[io]at hx;obtain⟨z,hz,rfl⟩:=pc.mp hx;obtain⟨i,h1,h2⟩:=vR hn hz;right;refine pG (k:=.inr z) (by grind) h2 ?_;have hlt:=(ul.mp h1).1;refine rz.mk (by grind) nofun ⟨?_,?_⟩
  .have e2:(ns.map wn)[ys.length]? =some (wn i):=by rw[io,h1];rfl
   rw[cr,ge,take_succ,e2]
   conv=>lhs;rw[e]
   rfl
  .exact hs.set rfl
 .rintro D ys H' hl ⟨e,hs⟩;have e2:ys=ns.map wn:=by
   rw[e,hl];rw[List.take_of_length_le];simp[kY,hn]
  subst e2;right;refine GS hs (by grind) (λp H hs=>?_);right;refine q p H ?_;refine Sep.pull .k1 (hJ (dx:=dx) (d:=d) hn ?_);walk_at "sp"
def wu {x:Addr}(ro:Ro K R)(hk:4<=k)(hn:ns.length=6)(hf:∀ (j:Nat) i,ns[j]? =some i->bJ j (wn i)=true) (s:Sep (pt x (wP (R.cad 10) dx [])::pt dx (.own x)::O) H) (q:∀ H',Sep (boxes R x ns::O) H'->Q wr H'):
  ae tab R k 14 (wf x::ns.map wn) H Q E:=by
 obtain⟨a0,a1,a2,a3,a4,a5,rfl⟩:=six hn;delta dA;right;rename_i p H1 hs1;obtain⟨na,hg,hS⟩:=ro.g_NAMES;simp only[hg];rw[<-ro.hK]at hS;right;refine JH (tp1:=true) (tp2:=true) (xs:=kY.map wp) (ys:=[wn a0,wn a1,wn a2,wn a3,wn a4,wn a5]) (hS _) (bp.of hs1.at) ?_;refine vI (xs:=kY.map wp) (ys:=[wn a0,wn a1,wn a2,wn a3,wn a4,wn a5]) (λj U H=>∃ v w,U=[some (wf x),some (wn a0),some (wn a1),some (wn a2),some (wn a3),some (wn a4),some (wn a5),some (wf p),v,w]/\Sep (pt p (ww [wn a0,wn a1,wn a2,wn a3,wn a4,wn a5])::pt x (wP (R.cad 10) dx [])::pt dx (.own x)::O) H) rfl ?_ ?_ ?_ ?_
 .exact⟨none,none,rfl,hs1⟩
 .rintro j U H ⟨v,w,rfl,hs⟩;exact⟨hS _,bp.of hs.at⟩
 .rintro j y z T U H hy hz ⟨v,w,rfl,hs⟩ hT;rw[io]at hy;obtain⟨nm,hnm,rfl⟩:=pc.mp hy;obtain⟨i,hi,rfl⟩:∃ i,([a0,a1,a2,a3,a4,a5]:List Int)[j]? =some i/\z=wn i:=by
   have hz':(([a0,a1,a2,a3,a4,a5]:List Int).map wn)[j]? =some z:=hz;rw[io]at hz';obtain⟨i,h1,h2⟩:=pc.mp hz';exact⟨i,h1,h2.symm⟩
  have hs2:=hs.mY (xs:=[wp nm,wn i]) hT;left;refine⟨T,_,rfl,.inl (bp.of hs2.atT),rfl,?_⟩;right;refine ub ro nofun hnm rfl ?_;rw[hf j i hi];right;exact⟨_,_,rfl,hs2.drop⟩
 .rintro U H ⟨v,w,rfl,hs⟩;right;simp only[hg];right;refine K9 (tp1:=true) (tp2:=true) (ks:=yK) (ys:=([a0,a1,a2,a3,a4,a5]:List Int).map wn) hs (hS _) (bp.of hs.at) (by decide+kernel) rfl (re rfl) (λd H2 hs2=>?_);right;rename_i H3 hs3;refine q _ ?_;refine hJ (dx:=dx) (d:=d) rfl ?_;walk_at "sp"
def An {j:Nat}{x:Str}(ro:Ro K R)(hk:1<=k)(hj:kY[j]? =some x)(q:Q (.bl true) H):ae tab R k 11 [wp x] H Q E:=by
 delta k9;right;obtain⟨a,hg,hs⟩:=ro.g_NAMES;simp only[hg];have hs':=hs H;rw[<-ro.hK]at hs';right;refine gh hs' rfl rfl ?_;rcases lG hj with⟨rfl,rfl⟩|⟨rfl,rfl⟩|⟨rfl,rfl⟩|⟨rfl,rfl⟩|⟨rfl,rfl⟩|⟨rfl,rfl⟩<;>exact q
def d9 {b:Addr}{j:Nat}{x:Str}(ro:Ro K R)(hk:2<=k)(s:Sep (boxes R b ns::O) H)(hj:kY[j]? =some x)(hi:ns[j]? =some i)(q:Q (wn i) H):ae tab R k 15 [wf b,wp x] H Q E:=by
 obtain⟨dx,d,hn,s⟩:=il s;delta gz;right;refine An ro nofun hj ?_;right;obtain⟨i',h1,h2⟩:=vR hn hj;rw[hi]at h1;cases h1;exact pG (k:=.inr x) (by grind) h2 q
def xG {b:Addr}(ro:Ro K R)(hk:5<=k)(s:Sep (boxes R b ns::O) H)(q:∀ c H',Sep (boxes R c ns::boxes R b ns::O) H'->Q (wf c) H'):ae tab R k 18 [wf b] H Q E:=by
 delta eT;right;intro x dx h1 h2 h3;refine wu (ns:=[0,0,0,1,0,0]) ro nofun rfl ?_ (gk s h1 h2 h3) (λH1 hs1=>?_)
 .intro j i hi;rcases j with _|_|_|_|_|_|j<;>first|(cases hi;rfl)|exact absurd hi (by simp)
 refine⟨rfl,?_⟩;obtain⟨dx1,d1,hn1,hs2⟩:=il hs1;obtain⟨dx2,d2,hn2,hs3⟩:=il (hs2.pull .k3);right;refine vU hs3 (by grind) (λd3 H3 hs4=>?_);right;rename_i H4 hs5;refine q _ _ ?_;refine hJ (dx:=dx1) (d:=d3) hn2 ?_;refine Sep.push .k3 (hJ (dx:=dx2) (d:=d2) hn2 ?_);walk_at "sp"
def hU {x:Addr}{w:V}(hk:1<=k)(s:Sep (pt x (.exc (R.cad 4) none [] true)::O) H)(q:∀ d H',Sep (pt x (.exc (R.cad 4) (some d) [("box",v),("number",w)] true)::pt d (.own x)::O) H'->Q wr H'):ae tab R k 3 [wf x,v,w] H Q E:=by
 delta dP;right;refine⟨_,4,_,_,_,_,rfl,by grind,rfl,?_⟩;right;refine vQ s rfl rfl (λd H hs=>?_);right;refine Cj hs (by ac_rfl) rfl rfl (re rfl) rfl (λH hs=>?_);right;exact q d H hs
abbrev J0:V->Bool
 | wp x=>ID (wp x) (kY.map wp)
 |_=>false
def pj (ro:Ro K R)(hk:1<=k)(ht:tyName v H=some t)(q:Q (.bl (J0 v)) H):ae tab R k 11 [v] H Q E:=by
 delta k9;right;obtain⟨a,hg,hs⟩:=ro.g_NAMES;have hs':=hs H;rw[<-ro.hK]at hs';cases fj ht
 case str x=>
  refine jM ht rfl ?_;left;refine aV rfl ?_;left;simp only[hg];right;exact gh hs' rfl rfl q
 all_goals
  refine jM ht rfl ?_;right;exact q
def uG {j:Nat}{x:Str}(hj:kY[j]? =some x):J0 (wp x)=true:=by
 rcases lG hj with⟨rfl,rfl⟩|⟨rfl,rfl⟩|⟨rfl,rfl⟩|⟨rfl,rfl⟩|⟨rfl,rfl⟩|⟨rfl,rfl⟩<;>rfl
def v8 {j:Nat}{x:Str}(hn:ns.length=6)(hj:kY[j]? =some x):putK (yK.zip (ns.map wn)) (.inr x) (wn i)=yK.zip ((ns.set j i).map wn):=by
 obtain⟨a,b,c,d,e,f,rfl⟩:=six hn;rcases lG hj with⟨rfl,rfl⟩|⟨rfl,rfl⟩|⟨rfl,rfl⟩|⟨rfl,rfl⟩|⟨rfl,rfl⟩|⟨rfl,rfl⟩<;>rfl
def Hr {b:Addr}{j:Nat}{x:Str}(ro:Ro K R)(hk:4<=k)(s:Sep (boxes R b ns::O) H)(hj:kY[j]? =some x)(hf:bJ j (wn i)=true)(q:∀ H',Sep (boxes R b (ns.set j i)::O) H'->Q wr H'):ae tab R k 16 [wf b,wp x,wn i] H Q E:=by
 obtain⟨dx,d,hn,s⟩:=il s;delta dY;right;refine pj (t:="str") ro nofun rfl ?_;rw[uG hj];right;refine ub ro nofun hj rfl ?_;rw[hf];right;refine wq (k:=.inr x) (kvs':=yK.zip ((ns.set j i).map wn)) s (by ac_rfl) (by rw[length_zip,ci,hn];decide) (v8 hn hj) (λH1 hs1=>?_);right;exact q H1 (hJ (by rw[length_set];exact hn) hs1)
def uy {b:Addr}{j:Nat}{x:Str}(ro:Ro K R)(hk:4<=k)(s:Sep (boxes R b ns::O) H)(hj:kY[j]? =some x)(ht:tyName v H=some t)(hf:bJ j v=false)(q:∀ e d H',Sep (pt e (.exc (R.cad 4) (some d) [("box",wp x),("number",v)] false)::pt d (.own e)::boxes R b ns::O) H'->E e H'):ae tab R k 16 [wf b,wp x,v] H Q E:=by
 delta dY;right;refine pj (t:="str") ro nofun rfl ?_;rw[uG hj];right;refine ub ro nofun hj ht ?_;rw[hf];right;intro e he;refine hU nofun (s.new he) (λd H3 hs3=>⟨rfl,?_⟩);exact fS (G:=⟨tab,R,ae tab R (k-1),true⟩) hs3 .e rfl (λH4 hs4=>q e d H4 hs4)
abbrev Ob (R:Rt)(A:az)(b:Addr)(i:Nat)(fl:List Str):Prop:=∀ H D,A.p H D->∃ dx fs,H b=some (wP (R.cad i) dx fs)/\fs.map (·.1)=fl
def vK {m:Str}:∀ {fs:List (Str×V)},(fs.map (·.1)).all (λx=>!(m ==x))=true->fs.lookup m=none
 | [],_=>rfl
 |(x,v)::fs,h=>by
  simp only[map_cons,all_cons,ol]at h;have h1:(m ==x)=false:=by simpa using h.1
  rw[lookup_cons,h1];exact vK h.2
def af {G:Gx}{b:Addr}{i f:Nat}{fl:List Str}{m:Str}{X:Nat->Prop}(o:Ob G.R A b i fl)(s:Sep O H)(p:ah A O Δ)(hm:fl.all (λx=>!(m ==x))=true) (hf:G.T.me.lookup (i,m)=some f) (h:X f):
  ∃ p' i' dx fs f',wf b=wf p'/\H p'=some (wP (G.R.cad i') dx fs)/\fs.lookup m=none/\G.T.me.lookup (i',m)=some f'/\X f':=by
 obtain⟨D,k,D1,D2,s1,s2,dj,h1,h2⟩:=s.pull p;obtain⟨dx,fs,e1,e2⟩:=o H D1 h1;exact⟨b,i,dx,fs,f,rfl,e1,vK (e2▸hm),hf,h⟩
structure Bx where
 h:Int
 t:Int
 l:Int
 w:Int
 s:Int
 m:Int
abbrev Bx.ls (x:Bx):List Int:=[x.h,x.t,x.l,x.w,x.s,x.m]
abbrev Bx.ok (x:Bx):Prop:=(-1000000000<=x.h/\x.h<=1000000000)/\(-1000000000<=x.t/\x.t<=1000000000)/\(0<=x.l/\x.l<=1000000000)/\(x.w=1\/x.w= -1)/\(0<=x.s/\x.s<=1000000000)/\(x.m=0\/x.m=1)
abbrev au (R:Rt)(b:Addr)(x:Bx):az:=bx λ_:Unit=>[boxes R b x.ls,pu x.ok]
variable {x:Bx}
def dI {b:Addr}(s:Sep (au R b x::O) H):x.ok/\Sep (boxes R b x.ls::O) H:=by
 obtain⟨_,s⟩:=gY s;have s:Sep (boxes R b x.ls::pu x.ok::O) H:=s;exact⟨(s.pull .k1).pure,(s.pull .k1).drop⟩
def nN {b:Addr}(hx:x.ok)(s:Sep (boxes R b x.ls::O) H):Sep (au R b x::O) H:=eg () (Sep.push .k1 (Sep.jq hx s))
def nQ {b:Addr}(s:Sep O H)(p:ah (au R b x) O Δ):x.ok:=(dI (s.pull p)).1
def a8 {b:Addr}:Ob R (au R b x) b 10 ["numbers"]:=by
 rintro H D ⟨_,D1,D2,_,_,_,⟨⟨dx,d⟩,E1,E2,_,_,_,⟨_,h⟩,_⟩,_⟩;exact⟨dx,_,h,rfl⟩
def Ih (h:x.ok):∀ (j:Nat) i,x.ls[j]? =some i->bJ j (wn i)=true:=by
 obtain⟨⟨h1,h2⟩,⟨h3,h4⟩,⟨h5,h6⟩,h7,⟨h8,h9⟩,h10⟩:=h;intro j i hi;rcases j with _|_|_|_|_|_|j
 .cases hi;simp[bJ,fN,h1,h2]
 .cases hi;simp[bJ,fN,h3,h4]
 .cases hi;simp[bJ,fh,h5,h6]
 .cases hi;rcases h7 with e|e<;>rw[e]<;>rfl
 .cases hi;simp[bJ,fh,h8,h9]
 .cases hi;rcases h10 with e|e<;>rw[e]<;>rfl
 .exact absurd hi (by simp[Bx.ls])
def vT (h: -1000000000<=i/\i<=1000000000):fN (wn i)=true:=by simp[fN,h.1,h.2]
def wK (h:0<=i/\i<=1000000000):fh (wn i)=true:=by simp[fh,h.1,h.2]
section
variable {b:Addr}{h t l w s m i:Int}
def Kq (ro:Ro K R)(hk:2<=k)(z:Sep O H)(p:ah (au R b ⟨h,t,l,w,s,m⟩) O Δ)(q:Q (wn h) H):ae tab R k 15 [wf b,wp "here"] H Q E:=d9 (j:=0) ro hk (dI (z.pull p)).2 rfl rfl q
def KI (ro:Ro K R)(hk:2<=k)(z:Sep O H)(p:ah (au R b ⟨h,t,l,w,s,m⟩) O Δ)(q:Q (wn t) H):ae tab R k 15 [wf b,wp "there"] H Q E:=d9 (j:=1) ro hk (dI (z.pull p)).2 rfl rfl q
def Hx (ro:Ro K R)(hk:2<=k)(z:Sep O H)(p:ah (au R b ⟨h,t,l,w,s,m⟩) O Δ)(q:Q (wn l) H):ae tab R k 15 [wf b,wp "left"] H Q E:=d9 (j:=2) ro hk (dI (z.pull p)).2 rfl rfl q
def GI (ro:Ro K R)(hk:2<=k)(z:Sep O H)(p:ah (au R b ⟨h,t,l,w,s,m⟩) O Δ)(q:Q (wn w) H):ae tab R k 15 [wf b,wp "way"] H Q E:=d9 (j:=3) ro hk (dI (z.pull p)).2 rfl rfl q
def MC (ro:Ro K R)(hk:2<=k)(z:Sep O H)(p:ah (au R b ⟨h,t,l,w,s,m⟩) O Δ)(q:Q (wn s) H):ae tab R k 15 [wf b,wp "sign"] H Q E:=d9 (j:=4) ro hk (dI (z.pull p)).2 rfl rfl q
def Kt (ro:Ro K R)(hk:2<=k)(z:Sep O H)(p:ah (au R b ⟨h,t,l,w,s,m⟩) O Δ)(q:Q (wn m) H):ae tab R k 15 [wf b,wp "met"] H Q E:=d9 (j:=5) ro hk (dI (z.pull p)).2 rfl rfl q
def sj {y:Bx}{j:Nat}{nm:Str}(ro:Ro K R)(hk:4<=k)(z:Sep O H)(r:aH (au R b x) (au R b y) O Γ')(hj:kY[j]? =some nm)(hf:bJ j (wn i)=true)(hx:x.ls.set j i=y.ls)(hy:x.ok->y.ok)(q:∀ H',Sep Γ' H'->Q wr H'):ae tab R k 16 [wf b,wp nm,wn i] H Q E:=by
 obtain⟨Δ,h1,h2⟩:=r.bE;obtain⟨hok,z2⟩:=dI (z.pull h1);refine Hr ro hk z2 hj hf (λH' z3=>q H' (Sep.push h2 (nN (hy hok) ?_)));rw[hx]at z3;exact z3
def Kg (ro:Ro K R)(hk:4<=k)(z:Sep O H)(r:aH (au R b ⟨h,t,l,w,s,m⟩) (au R b ⟨i,t,l,w,s,m⟩) O Γ')(hi: -1000000000<=i/\i<=1000000000)(q:∀ H',Sep Γ' H'->Q wr H'):ae tab R k 16 [wf b,wp "here",wn i] H Q E:=
 sj (j:=0) ro hk z r rfl (vT hi) rfl (λ⟨_,a⟩=>⟨hi,a⟩) q
def Kr (ro:Ro K R)(hk:4<=k)(z:Sep O H)(r:aH (au R b ⟨h,t,l,w,s,m⟩) (au R b ⟨h,i,l,w,s,m⟩) O Γ')(hi: -1000000000<=i/\i<=1000000000)(q:∀ H',Sep Γ' H'->Q wr H'):ae tab R k 16 [wf b,wp "there",wn i] H Q E:=
 sj (j:=1) ro hk z r rfl (vT hi) rfl (λ⟨a1,_,a⟩=>⟨a1,hi,a⟩) q
def Jw (ro:Ro K R)(hk:4<=k)(z:Sep O H)(r:aH (au R b ⟨h,t,l,w,s,m⟩) (au R b ⟨h,t,i,w,s,m⟩) O Γ')(hi:0<=i/\i<=1000000000)(q:∀ H',Sep Γ' H'->Q wr H'):ae tab R k 16 [wf b,wp "left",wn i] H Q E:=
 sj (j:=2) ro hk z r rfl (wK hi) rfl (λ⟨a1,a2,_,a⟩=>⟨a1,a2,hi,a⟩) q
def JB (ro:Ro K R)(hk:4<=k)(z:Sep O H)(r:aH (au R b ⟨h,t,l,w,s,m⟩) (au R b ⟨h,t,l,w,s,i⟩) O Γ')(hi:i=0\/i=1)(q:∀ H',Sep Γ' H'->Q wr H'):ae tab R k 16 [wf b,wp "met",wn i] H Q E:=
 sj (j:=5) ro hk z r rfl (by rcases hi with rfl|rfl<;>rfl) rfl (λ⟨a1,a2,a3,a4,a5,_⟩=>⟨a1,a2,a3,a4,a5,hi⟩) q
def iq (ro:Ro K R)(hk:1<=k)(z:Sep O H)(p:ah (au R b x) O Δ)(q:∀ t H',Sep (tu t (x.ls.map wn)::O) H'->Q (wf t) H'):ae tab R k 17 [wf b] H Q E:=by
 obtain⟨hok,z2⟩:=dI (z.pull p);exact Dv ro hk z2 (λt H' z3=>q t H' (Sep.push (.t p) (nN hok (z3.pull .k1))))
def D9 (ro:Ro K R)(hk:4<=k)(hx:x.ok)(z:Sep (pt b (wP (R.cad 10) dx [])::pt dx (.own b)::O) H)(q:∀ H',Sep (au R b x::O) H'->Q wr H'):
  ae tab R k 14 (wf b::x.ls.map wn) H Q E:=wu ro hk rfl (Ih hx) z (λH' z2=>q H' (nN hx z2))
def rY (ro:Ro K R)(hk:4<=k)(hx:(Bx.mk h t l w s m).ok)(z:Sep (pt b (wP (R.cad 10) dx [])::pt dx (.own b)::O) H)(q:∀ H',Sep (au R b ⟨h,t,l,w,s,m⟩::O) H'->Q wr H'):
  ae tab R k 14 [wf b,wn h,wn t,wn l,wn w,wn s,wn m] H Q E:=D9 (x:=⟨h,t,l,w,s,m⟩) ro hk hx z q
end
abbrev gt (cs:List Int)(i:Int):Int:=(cs[i.toNat]?).getD 0
def EC {cs:List Int}{x:Int}(h:cs[i.toNat]? =some x):gt cs i=x:=by unfold gt;rw[h];rfl
def Dl {cs:List Int}(h0:0<=i)(h1:i<cs.length):cs[i.toNat]? =some (gt cs i):=by
 unfold gt;rw[lw nofun]
 rfl
def dG {cs:List Int}(h0:0<=i)(h1:i<cs.length):lS (cs.map wn) i=some (wn (gt cs i)):=aY h0 (by rw[io,Dl h0 h1];rfl)
def oq {cs:List Int}(hc:cA cs):0<=gt cs i/\gt cs i<=1000000000:=by
 unfold gt;cases e:cs[i.toNat]? with
 |none=>exact⟨by decide,by decide⟩
 |some x=>exact hc x (db e)
abbrev xQ (cs:List Int)(ws:List Str):Prop:=cs.length=ws.length/\1<=cs.length/\cs.length<=60/\cA cs
abbrev aC (R:Rt)(a:Addr)(cs:List Int)(ws:List Str):az:=bx λ_:Unit=>[aQ (R.cad 27) a (cs.map wn) (ws.map wp),pu (xQ cs ws)]
def fK {cs:List Int}(s:Sep (aC R a cs ws::O) H):xQ cs ws/\Sep (aQ (R.cad 27) a (cs.map wn) (ws.map wp)::O) H:=by
 obtain⟨_,s⟩:=gY s;have s:Sep (aQ (R.cad 27) a (cs.map wn) (ws.map wp)::pu (xQ cs ws)::O) H:=s;exact⟨(s.pull .k1).pure,(s.pull .k1).drop⟩
def gA {cs:List Int}(hx:xQ cs ws)(s:Sep (aQ (R.cad 27) a (cs.map wn) (ws.map wp)::O) H):Sep (aC R a cs ws::O) H:=eg () (Sep.push .k1 (Sep.jq hx s))
def gP {cs:List Int}(s:Sep O H)(p:ah (aC R a cs ws) O Δ):xQ cs ws:=(fK (s.pull p)).1
def bg {cs:List Int}:Ob R (aC R a cs ws) a 27 ["contents","permits"]:=by
 rintro H D ⟨_,D1,D2,_,_,_,⟨⟨dx,c,d⟩,E1,E2,_,_,_,⟨_,h⟩,_⟩,_⟩;exact⟨dx,_,h,rfl⟩
section
variable {a:Addr}{cs:List Int}{ws:List Str}{i v:Int}
def Ce (hk:3<=k)(z:Sep O H)(p:ah (aC R a cs ws) O Δ)(q0:ai ws "look" i=true->Q (wn (gt cs i)) H)
  (q1:ai ws "look" i=false->∀ e H',Sep (j3 (R.cad 3) [("deed",wp "look"),("cell",wn i)] e false::O) H'->E e H'):ae tab R k 91 [wf a,wn i] H Q E:=by
 obtain⟨hok,z2⟩:=fK (z.pull p);refine Fu hk z2 (by rw[ci];exact hok.1) (λhm x hx=>?_) (λhm e H' z3=>q1 hm e H' (Sep.push (.t p) (gA hok (z3.pull .k1))));rw[io]at hx;obtain⟨y,hy,rfl⟩:=pc.mp hx;rw[<-EC hy];exact q0 hm
def Ie (hk:3<=k)(z:Sep O H)(r:aH (aC R a cs ws) (aC R a (cs.set i.toNat v) ws) O Γ')(hv:0<=v/\v<=1000000000)(q0:ai ws "put" i=true->∀ H',Sep Γ' H'->Q wr H')
  (q1:ai ws "put" i=false->∀ e H',Sep (j3 (R.cad 3) [("deed",wp "put"),("cell",wn i)] e false::O) H'->E e H'):ae tab R k 92 [wf a,wn i,wn v] H Q E:=by
 obtain⟨Δ,p,p'⟩:=r.bE;obtain⟨hok,z2⟩:=fK (z.pull p);refine JA hk z2 (by rw[ci];exact hok.1) (λhm H' z3=>q0 hm H' ?_) (λhm e H' z3=>q1 hm e H' (Sep.push (.t p) (gA hok (z3.pull .k1))));refine Sep.push p' (gA ⟨by rw[length_set];exact hok.1,by rw[length_set];exact hok.2.1,by rw[length_set];exact hok.2.2.1,nO hok.2.2.2 hv.1 hv.2⟩ ?_);rw[List.map_set];exact z3
def HY {d:Str}(hk:2<=k)(z:Sep O H)(p:ah (aC R a cs ws) O Δ)(q:Q (.bl (ai ws d i)) H):ae tab R k 90 [wf a,wp d,wn i] H Q E:=by
 obtain⟨hok,z2⟩:=fK (z.pull p);exact Bz hk z2 (by rw[ci];exact hok.1) q
def i9 (hk:1<=k)(z:Sep O H)(p:ah (aC R a cs ws) O Δ)(q:∀ l H',Sep (pt l (wv (cs.map wn))::O) H'->Q (wf l) H'):ae tab R k 87 [wf a] H Q E:=by
 obtain⟨hok,z2⟩:=fK (z.pull p);exact GZ hk z2 (λl H' z3=>q l H' (Sep.push (.t p) (gA hok (z3.pull .k1))))
def f7 (hk:1<=k)(z:Sep O H)(p:ah (aC R a cs ws) O Δ)(q:∀ l H',Sep (pt l (wv (ws.map wp))::O) H'->Q (wf l) H'):ae tab R k 88 [wf a] H Q E:=by
 obtain⟨hok,z2⟩:=fK (z.pull p);exact yS hk z2 (λl H' z3=>q l H' (Sep.push (.t p) (gA hok (z3.pull .k1))))
end
def xV {cs:List Int}(h1:1<=cs.length)(h60:cs.length<=60)(hc:cA cs):bad (cs.map wn)=none:=by
 refine qW (by rw[ci];exact⟨h1,h60⟩) λi y hy=>?_
 rw[io]at hy;obtain⟨z,hz,rfl⟩:=pc.mp hy;exact wK (hc z (db hz))
def AE {cs:List Int}(s:Sep O H):Sep (tys (cs.map wn)::O) H:=Sep.J6 (λx hx=>by
 obtain⟨z,_,rfl⟩:=List.mem_map.mp hx;exact⟨"int",rfl⟩) s
def wg {p:Addr}{cs:List Int}(ro:Ro K R)(hk:4<=k)(h1:1<=cs.length)(h60:cs.length<=60)(hc:cA cs)(s:Sep (pt p (wP (R.cad 27) dx [])::pt dx (.own p)::O) H)(h:ah (pt a (wv (cs.map wn))) O Δ)
  (q:∀ H',Sep (aC R p cs (tz cs.length "open")::O) H'->Q wr H'):ae tab R k 85 [wf p,wf a] H Q E:=by
 have s2:=AE (cs:=cs) (s.pull (.j2 h));refine pq (a:=a) (dx:=dx) (O:=Δ) ro hk (s2.sub ?_) (λ_ H' z=>q H' ?_) (λat' hb=>absurd hb (by rw[xV h1 h60 hc];exact λz=>nomatch z))
 .ac_nf
 .refine Sep.push (.t h) ?_;have e:tz (cs.map wn).length (wp "open")=(tz cs.length ("open":Str)).map wp:=by rw[ci,map_replicate]
  rw[e]at z;have z2:=gA (cs:=cs) ⟨by rw[length_replicate],h1,h60,hc⟩ z;exact z2.sub (by ac_nf)
def bB {T:Tab}{f:Nat}{vs':List V}(e:vs=vs')(h:ae T R k f vs' H Q E):ae T R k f vs H Q E:=e▸h
local macro_rules| `(tactic|walk_at "ag")=>`(tactic|first|refine bB (vs':=[_,_]) rfl ?_|refine bB (vs':=[_,_,_]) rfl ?_|refine bB (vs':=[_]) rfl ?_|refine bB (vs':=[_,_,_,_]) rfl ?_)
local macro_rules| `(tactic|walk_at "mt")=>`(tactic|first|((with_reducible refine' af a8 ?s ?p ?m ?f ?_);(case s=>with_reducible assumption);(case p=>symm);(case m=>exact rfl);(case f=>exact rfl))|((with_reducible refine' af bg ?s ?p ?m ?f ?_);(case s=>with_reducible assumption);(case p=>symm);(case m=>exact rfl);(case f=>exact rfl)))
local macro_rules| `(tactic|walk_at "hq")=>`(tactic|((with_reducible (first|refine' Kq ?r ?k ?s ?p ?_|refine' KI ?r ?k ?s ?p ?_|refine' Hx ?r ?k ?s ?p ?_|refine' GI ?r ?k ?s ?p ?_|refine' MC ?r ?k ?s ?p ?_|refine' Kt ?r ?k ?s ?p ?_));(case r=>with_reducible assumption);(case k=>exact nofun);(case s=>with_reducible assumption);(case p=>symm)))
local macro_rules| `(tactic|walk_at "gq")=>`(tactic|((with_reducible (first|refine' Kg ?r ?k ?s ?p ?i (λH hs=>?_)|refine' Kr ?r ?k ?s ?p ?i (λH hs=>?_)|refine' Jw ?r ?k ?s ?p ?i (λH hs=>?_)|refine' JB ?r ?k ?s ?p ?i (λH hs=>?_)));(case r=>with_reducible assumption);(case k=>exact nofun);(case s=>with_reducible assumption);(case p=>ac_rfl);(case i=>omega)))
local macro_rules| `(tactic|walk_at "ws")=>`(tactic|(walk_at "w";repeat(first|(walk_at "st";walk_at "w")|(walk_at "mt";walk_at "w")|(walk_at "ag";(walk_at "hq");walk_at "w")|(walk_at "ag";(walk_at "gq");walk_at "w"))))
local macro_rules| `(tactic|walk_at "sc")=>`(tactic|first|(refine aV (by decide+kernel) ?_;walk_at "go")|(refine ax (by decide+kernel) ?_;walk_at "go"))
inductive Out where
 |on (r:Int) (x:Bx) (cs:List Int)
 |no (d:Str) (c:Int)
section
variable {b a:Addr}{h t l w s m i j by':Int}{cs:List Int}{ws:List Str}
def Gq (ro:Ro K R)(hk:5<=k)(z:Sep O H)(r:aH (au R b ⟨h,t,l,w,s,m⟩) (au R b ⟨h+i,t,l,w,s,m⟩) O Γ')(hi: -1000000000<=h+i/\h+i<=1000000000)(q:∀ H',Sep Γ' H'->Q wr H'):ae tab R k 64 [wf b,wp "here",wn i] H Q E:=by
 obtain⟨Δ,p1,p2⟩:=r.bE;delta qe;left;refine⟨rfl,?_⟩;left;refine af a8 z p1 rfl rfl ?_;left;refine⟨rfl,?_⟩;left;refine af a8 z p1 rfl rfl ?_;left;refine Kq ro nofun z p1 ?_;left;exact Kg ro nofun z r hi q
def JE (ro:Ro K R)(hk:5<=k)(z:Sep O H)(r:aH (au R b ⟨h,t,l,w,s,m⟩) (au R b ⟨h,t+i,l,w,s,m⟩) O Γ')(hi: -1000000000<=t+i/\t+i<=1000000000)(q:∀ H',Sep Γ' H'->Q wr H'):ae tab R k 64 [wf b,wp "there",wn i] H Q E:=by
 obtain⟨Δ,p1,p2⟩:=r.bE;delta qe;left;refine⟨rfl,?_⟩;left;refine af a8 z p1 rfl rfl ?_;left;refine⟨rfl,?_⟩;left;refine af a8 z p1 rfl rfl ?_;left;refine KI ro nofun z p1 ?_;left;exact Kr ro nofun z r hi q
def LH (ro:Ro K R)(hk:5<=k)(z:Sep O H)(r:aH (au R b ⟨h,t,l,w,s,m⟩) (au R b ⟨h,t,l+i,w,s,m⟩) O Γ')(hi:0<=l+i/\l+i<=1000000000)(q:∀ H',Sep Γ' H'->Q wr H'):ae tab R k 64 [wf b,wp "left",wn i] H Q E:=by
 obtain⟨Δ,p1,p2⟩:=r.bE;delta qe;left;refine⟨rfl,?_⟩;left;refine af a8 z p1 rfl rfl ?_;left;refine⟨rfl,?_⟩;left;refine af a8 z p1 rfl rfl ?_;left;refine Hx ro nofun z p1 ?_;left;exact Jw ro nofun z r hi q
abbrev fin (l:Int):Int:=if l=0 then 1 else 0
def sQ (ro:Ro K R)(hk:6<=k)(z:Sep O H)(r:aH (au R b ⟨h,t,l,w,s,m⟩) (au R b ⟨h,t,l+ -i,w,s,m⟩) O Γ')(hi:0<=l+ -i/\l+ -i<=1000000000)(q:∀ H',Sep Γ' H'->Q (wn (fin (l+ -i))) H'):ae tab R k 66 [wf b,wn i] H Q E:=by
 obtain⟨Δ,p1,p2⟩:=r.bE;delta ku;right;refine LH ro nofun z r hi (λH1 z1=>?_);right;refine af a8 z1 p2 rfl rfl ?_;left;refine Hx ro nofun z1 p2 ?_;right;refine aS (λe=>?_) (λe=>?_)
 .right;have q:=q H1 z1;rw[fin,if_pos e]at q;exact q
 .right;have q:=q H1 z1;rw[fin,if_neg e]at q;exact q
abbrev hm (cs:List Int)(ws:List Str)(i j:Int)(f:List Int->Out):Out:=
 if ai ws "look" i=true then(if ai ws "put" j=true then f (cs.set j.toNat (gt cs i)) else .no "put" j) else .no "look" i
abbrev gU (x:Bx)(cs:List Int)(ws:List Str):Out:=
 if x.l=0 then .on 1 x cs else if x.t<=x.h then hm cs ws x.h x.t λcs'=>.on (fin (x.l+ -1)) ⟨x.h+1,x.t+1,x.l+ -1,x.w,x.s,x.m⟩ cs'
 else hm cs ws (x.h+x.l-1) (x.t+x.l-1) λcs'=>.on (fin (x.l+ -1)) ⟨x.h,x.t,x.l+ -1,x.w,x.s,x.m⟩ cs'
abbrev xm (cs:List Int)(ws:List Str)(i j:Int)(f:List Int->Out):Out:=
 if ai ws "look" i=true then(if ai ws "look" j=true then(if ai ws "put" i=true then(if ai ws "put" j=true then f ((cs.set i.toNat (gt cs j)).set j.toNat (gt cs i)) else .no "put" j) else .no "put" i) else .no "look" j) else .no "look" i
abbrev mK (x:Bx)(cs:List Int)(ws:List Str):Out:=
 if x.l=0 then .on 1 x cs else if x.l=1 then .on 1 ⟨x.h,x.t,0,x.w,x.s,x.m⟩ cs else xm cs ws x.h (x.h+x.l-1) λcs'=>.on (fin (x.l+ -2)) ⟨x.h+1,x.t,x.l+ -2,x.w,x.s,x.m⟩ cs'
end
section
variable {b a:Addr}{h t l w s m i j:Int}{cs:List Int}{ws:List Str}
def GJ (ro:Ro K R)(hk:6<=k)(z:Sep O H)(r:aH (au R b ⟨h,t,l,w,s,m⟩) (au R b ⟨h+w,t,l,w,s,m⟩) O Γ')(hi: -1000000000<=h+w/\h+w<=1000000000)(q:∀ H',Sep Γ' H'->Q wr H'):ae tab R k 65 [wf b,wp "here"] H Q E:=by
 obtain⟨Δ,p1,p2⟩:=r.bE;delta fE;left;refine⟨rfl,?_⟩;left;refine⟨rfl,?_⟩;left;refine af a8 z p1 rfl rfl ?_;left;refine GI ro nofun z p1 ?_;left;exact Gq ro nofun z r hi q
def G0 (ro:Ro K R)(hk:6<=k)(z:Sep O H)(r:aH (au R b ⟨h,t,l,w,s,m⟩) (au R b ⟨h,t+w,l,w,s,m⟩) O Γ')(hi: -1000000000<=t+w/\t+w<=1000000000)(q:∀ H',Sep Γ' H'->Q wr H'):ae tab R k 65 [wf b,wp "there"] H Q E:=by
 obtain⟨Δ,p1,p2⟩:=r.bE;delta fE;left;refine⟨rfl,?_⟩;left;refine⟨rfl,?_⟩;left;refine af a8 z p1 rfl rfl ?_;left;refine GI ro nofun z p1 ?_;left;exact JE ro nofun z r hi q
abbrev mL (x:Bx)(cs:List Int)(ws:List Str):Out:=
 if x.l=0 then .on 1 x cs else hm cs ws x.h x.t λcs'=>.on (fin (x.l+ -1)) ⟨x.h+x.w,x.t+x.w,x.l+ -1,x.w,x.s,x.m⟩ cs'
abbrev mi (x:Bx)(cs:List Int)(ws:List Str):Out:=
 if x.l=0 then .on 1 x cs else if ai ws "put" x.t=true then .on (fin (x.l+ -1)) ⟨x.h,x.t+x.w,x.l+ -1,x.w,x.s,x.m⟩ (cs.set x.t.toNat x.s) else .no "put" x.t
abbrev lF (x:Bx)(cs:List Int)(ws:List Str):Out:=
 if x.l=0 then .on 1 ⟨x.h,x.t,x.l,x.w,x.s,0⟩ cs else if ai ws "look" x.h=true then
  (if gt cs x.h=x.s then .on 1 ⟨x.h,x.t,x.l,x.w,x.s,1⟩ cs else .on (fin (x.l+ -1)) ⟨x.h+x.w,x.t,x.l+ -1,x.w,x.s,0⟩ cs) else .no "look" x.h
abbrev gO (x:Bx)(cs:List Int)(ws:List Str):Out:=
 if x.l=0 then .on 1 ⟨x.h,x.t,x.l,x.w,x.s,1⟩ cs else if ai ws "look" x.h=true then(if ai ws "look" x.t=true then
  (if gt cs x.h=gt cs x.t then .on (fin (x.l+ -1)) ⟨x.h+x.w,x.t+x.w,x.l+ -1,x.w,x.s,1⟩ cs else .on 1 ⟨x.h,x.t,x.l,x.w,x.s,0⟩ cs) else .no "look" x.t) else .no "look" x.h
def nt {c:Bool}(h:c=false):¬ c=true:=by rw[h];decide
end
abbrev b2i (c:Bool):Int:=match c with
 |true=>1
 |false=>0
def k6 {G:Gx}{c:Bool}(q:Q (wn (b2i c)) H):qB G .int [.bl c] H Q:=by
 unfold qB;refine .inr ⟨c,rfl,?_⟩;cases c<;>exact q
section
variable {cs:List Int}{f g:Nat->Int}{i v:Int}
end
abbrev dd (R:Rt)(d:Addr)(c:Nat):az:=bx λdx:Addr=>[pt d (wP (R.cad c) dx []),pt dx (.own d)]
def Mc {c:Nat}(s:Sep (pt d (wP (R.cad c) dx [])::pt dx (.own d)::O) H):Sep (dd R d c::O) H:=eg dx s
def J4 {c:Nat}:Ob R (dd R d c) d c []:=by
 rintro H D ⟨dx,D1,D2,_,_,_,⟨_,h⟩,_⟩;exact⟨dx,_,h,rfl⟩
def pB {l p:Addr}{cs:List Int}(h1:H l=some (wv (cs.map wn)))(h2:H p=some (wv (cs.map wn))):dR R.K H 2 (wf l) (wf p) true:=
 sJ (n:=0) h1 h2 λx hx=>by
  obtain⟨z,_,rfl⟩:=List.mem_map.mp hx;exact⟨"int",rfl⟩
abbrev ar (d:Addr)(x:Bx):az:=pt d (.dK (yK.zip (x.ls.map wn)))
section
variable {d:Addr}{h t l w s m i:Int}{P:Hp->Prop}
def Mr (z:Sep O H)(p:ah (ar d ⟨h,t,l,w,s,m⟩) O Δ)(q:Q (wn h) H):qR K (wf d) (wp "here") H Q:=pG (k:=.inr "here") (z.get p) rfl q
def Ly (z:Sep O H)(p:ah (ar d ⟨h,t,l,w,s,m⟩) O Δ)(q:Q (wn t) H):qR K (wf d) (wp "there") H Q:=pG (k:=.inr "there") (z.get p) rfl q
def LY (z:Sep O H)(p:ah (ar d ⟨h,t,l,w,s,m⟩) O Δ)(q:Q (wn l) H):qR K (wf d) (wp "left") H Q:=pG (k:=.inr "left") (z.get p) rfl q
def LI (z:Sep O H)(p:ah (ar d ⟨h,t,l,w,s,m⟩) O Δ)(q:Q (wn w) H):qR K (wf d) (wp "way") H Q:=pG (k:=.inr "way") (z.get p) rfl q
def Mj (z:Sep O H)(p:ah (ar d ⟨h,t,l,w,s,m⟩) O Δ)(q:Q (wn s) H):qR K (wf d) (wp "sign") H Q:=pG (k:=.inr "sign") (z.get p) rfl q
def MD (z:Sep O H)(p:ah (ar d ⟨h,t,l,w,s,m⟩) O Δ)(q:Q (wn m) H):qR K (wf d) (wp "met") H Q:=pG (k:=.inr "met") (z.get p) rfl q
def rm {y:Bx}{j:Nat}{nm:Str}(z:Sep O H)(r:aH (ar d x) (ar d y) O Γ')(hj:kY[j]? =some nm)(hx:x.ls.set j i=y.ls)(q:∀ H',Sep Γ' H'->P H'):iI (wf d) (wp nm) (wn i) H P:=by
 refine wq (k:=.inr nm) z r (re rfl) ?_ q;rw[<-hx];exact v8 rfl hj
def LN (z:Sep O H)(r:aH (ar d ⟨h,t,l,w,s,m⟩) (ar d ⟨i,t,l,w,s,m⟩) O Γ')(q:∀ H',Sep Γ' H'->P H'):iI (wf d) (wp "here") (wn i) H P:=rm (j:=0) z r rfl rfl q
def Mn (z:Sep O H)(r:aH (ar d ⟨h,t,l,w,s,m⟩) (ar d ⟨h,i,l,w,s,m⟩) O Γ')(q:∀ H',Sep Γ' H'->P H'):iI (wf d) (wp "there") (wn i) H P:=rm (j:=1) z r rfl rfl q
def L9 (z:Sep O H)(r:aH (ar d ⟨h,t,l,w,s,m⟩) (ar d ⟨h,t,i,w,s,m⟩) O Γ')(q:∀ H',Sep Γ' H'->P H'):iI (wf d) (wp "left") (wn i) H P:=rm (j:=2) z r rfl rfl q
def Mp (z:Sep O H)(r:aH (ar d ⟨h,t,l,w,s,m⟩) (ar d ⟨h,t,l,w,s,i⟩) O Γ')(q:∀ H',Sep Γ' H'->P H'):iI (wf d) (wp "met") (wn i) H P:=rm (j:=5) z r rfl rfl q
def Af (z:Sep O H)(r:aH (pt d (.dK [])) (ar d ⟨h,t,l,w,s,m⟩) O Γ')(q:∀ H',Sep Γ' H'->Q (wf d) H'):nI ["here","there","left","way","sign","met"] d [wn h,wn t,wn l,wn w,wn s,wn m] H Q:=by
 obtain⟨Δ,p1,p2⟩:=r.bE;unfold nI;exact⟨z.get p1,q _ (z.put r rfl)⟩
end
local macro_rules| `(tactic|walk_at "sx")=>`(tactic|((with_reducible (first|refine' Mr ?s ?p ?_|refine' Ly ?s ?p ?_|refine' LY ?s ?p ?_|refine' LI ?s ?p ?_|refine' Mj ?s ?p ?_|refine' MD ?s ?p ?_));(case s=>with_reducible assumption);(case p=>symm)))
local macro_rules| `(tactic|walk_at "sy")=>`(tactic|((with_reducible (first|refine' LN ?s ?p (λH hs=>?_)|refine' Mn ?s ?p (λH hs=>?_)|refine' L9 ?s ?p (λH hs=>?_)|refine' ds_w ?s ?p (λH hs=>?_)|refine' ds_s ?s ?p (λH hs=>?_)|refine' Mp ?s ?p (λH hs=>?_)));(case s=>with_reducible assumption);(case p=>ac_rfl)))
local macro_rules| `(tactic|walk_at "wd")=>`(tactic|(walk_at "w";repeat(first|(walk_at "sx";walk_at "w")|(walk_at "sy";walk_at "w")|(walk_at "st";walk_at "w")|(refine k6 ?_;walk_at "w"))))
def zE {d:Str}(hk:1<=k)(z:Sep O H)(p:ah (pt lv (wv (ws.map wp))) O Δ)(q:Q (.bl (ai ws d i)) H):ae tab R k 105 [wf lv,wp d,wn i] H Q E:=by
 have e0:H lv=some (wv (ws.map wp)):=z.get p;have no:(i<0\/¬ i<ws.length)->ai ws d i=false:=λh=>by
  unfold ai;rcases h with h|h
  .rw[decide_eq_false (by omega:¬ 0<=i),Bool.false_and]
  .rw[decide_eq_false h,Bool.false_and,Bool.and_false]
 delta lh;left;refine aJ (λh0=>?_) (λh0=>?_)
 .right;rw[no (.inl h0)]at q;exact q
 left;refine fX e0 ?_;left;rw[ci];refine aJ (λh1=>?_) (λh1=>?_)
 .right;rw[no (.inr nofun)]at q;exact q
 have h2:i.toNat<ws.length:=by omega
 have e1:ws[i.toNat]? =some ws[i.toNat]:=lw h2;generalize ws[i.toNat]=w at e1;have e2:(ws.map wp)[i.toNat]? =some (wp w):=by rw[io,e1];rfl
 have e3:ai ws d i=(if w="look" then d =="look" else w =="open"):=by
  unfold ai;rw[e1,decide_eq_true (by omega:0<=i),decide_eq_true (by omega:i<ws.length)]
  rfl
 left;refine aI e0 (aY nofun e2) ?_;right;refine bY (λhw=>?_) (λhw=>?_)
 .have hw:w="open":=by simpa[dw] using hw
  subst hw;rw[e3,if_neg (by decide+kernel)]at q;right;exact q
 .have hw:¬ w="open":=by simpa[dw] using hw
  left;refine aI e0 (aY nofun e2) ?_;right;refine bY (λhl=>?_) (λhl=>?_)
  .have hl:w="look":=by simpa[dw] using hl
   rw[e3,if_pos hl]at q;right;exact q
  .have hl:¬ w="look":=by simpa[dw] using hl
   have e4:(w ==("open":Str))=false:=by simpa using hw
   rw[e3,if_neg hl,e4]at q;right;exact q
inductive Wd where
 |copy|fill|seek|mtch|shift|turn
abbrev Wd.s:Wd->Str
 | .copy=>"copy"
 | .fill=>"fill"
 | .seek=>"seek"
 | .mtch=>"match"
 | .shift=>"shift"
 | .turn=>"turn"
abbrev Dy (h t l:Int):Wd->List Int
 | .copy=>[h]
 | .fill=>[]
 | .seek=>[h]
 | .mtch=>[h,t]
 | .shift=>if t<=h then[h+0] else[h+(l-1)]
 | .turn=>if l=1 then[] else[h,h+l-1]
abbrev Bl (h t l:Int):Wd->List Int
 | .copy=>[t]
 | .fill=>[t]
 | .seek=>[]
 | .mtch=>[]
 | .shift=>if t<=h then[t+0] else[t+(l-1)]
 | .turn=>if l=1 then[] else[h,h+l-1]
abbrev nP (wd:Wd)(x:Bx):List Int:=if x.l=0 then[] else Dy x.h x.t x.l wd
abbrev lQ (wd:Wd)(x:Bx):List Int:=if x.l=0 then[] else Bl x.h x.t x.l wd
abbrev bc (ws:List Str)(d:Str):List Int->Option (Str×Int)
 | []=>none
 |c::r=>if ai ws d c=true then bc ws d r else some (d,c)
abbrev bM (ws:List Str)(ls ps:List Int):Option (Str×Int):=match bc ws "look" ls with
 |some r=>some r
 |none=>bc ws "put" ps
def l9 {ws:List Str}{d:Str}:∀ {l:List Int},(∀ c ∈ l,ai ws d c=true)->bc ws d l=none
 | [],_=>rfl
 |c::r,h=>by
  unfold bc;rw[if_pos (h c mo)];exact l9 λc hc=>h c (dL _ hc)
def pK {ws:List Str}{d:Str}{c:Int}:∀ {l:List Int}{j:Nat},(∀ i x,i<j->l[i]? =some x->ai ws d x=true)->l[j]? =some c->ai ws d c=false->bc ws d l=some (d,c)
 | [],_,_,h,_=>by simp at h
 |a::r,0,_,h,hc=>by
  have:a=c:=by simpa using h
  subst this;unfold bc;rw[if_neg (nt hc)]
 |a::r,j+1,hb,h,hc=>by
  unfold bc;rw[if_pos (hb 0 a (Nat.succ_pos _) rfl)];exact pK (λi x hi hx=>hb (i+1) x (Nat.succ_lt_succ hi) (by simpa using hx)) (by simpa using h) hc
abbrev cz:Wd->Bx->List Int->List Str->Out
 | .copy=>mL
 | .fill=>mi
 | .seek=>lF
 | .mtch=>gO
 | .shift=>gU
 | .turn=>mK
abbrev jY (d p:Addr)(O:List az)(Q:VK):Out->Prop
 | .on r x' cs'=>∀ H',Sep (ar d x'::pt p (wv (cs'.map wn))::O) H'->Q (wn r) H'
 | .no _ _=>True
def aK {d:Str}{r:List Int}(h:bc ws d (c::r)=none):ai ws d c=true/\bc ws d r=none:=by
 unfold bc at h
 by_cases e:ai ws d c=true
 .rw[if_pos e]at h;exact⟨e,h⟩
 .rw[if_neg e]at h;cases h
def ic {ls ps:List Int}(h:bM ws ls ps=none):bc ws "look" ls=none/\bc ws "put" ps=none:=by
 unfold bM at h
 split at h
 .cases h
 .rename_i e;exact⟨e,h⟩
def nH:b2i (dw (wn l) (wn 0))=fin l:=by
 show b2i (l ==0)=_;unfold fin
 by_cases e:l=0
 .rw[if_pos e,e];rfl
 .rw[if_neg e,show(l ==0)=false by simpa using e];rfl
def cL {cs:List Int}{v:Int}:(cs.map wn).set n (wn v)=(cs.set n v).map wn:=by rw[List.map_set]
def AW:b2i (dw (wn l) (wn 1))=fin (l+ -1):=by
 show b2i (l ==1)=_;unfold fin
 by_cases e:l=1
 .rw[if_pos nofun,e];rfl
 .rw[if_neg nofun,show(l ==1)=false by simpa using e];rfl
def BW:l-1=l+ -1:=by omega
def M8:l-2=l+ -2:=by omega
def E0 {j:Int}(h:i=j):dw (wn i) (wn j)=true:=by subst h;show(i ==i)=true;simp
def E3 {j:Int}(h:i≠j):dw (wn i) (wn j)=false:=by show(i ==j)=false;simpa using h
variable {wd:Wd}
section
variable {d p:Addr}{h t l w s m:Int}{cs:List Int}{ws:List Str}
def tD (wd:Wd)(hw:wd=.seek\/wd=.mtch)(hk:1<=k)(hl:cs.length=ws.length)(hb:bM ws (nP wd x) (lQ wd x)=none)(z:Sep (ar d x::pt p (wv (cs.map wn))::O) H)
  (q:jY d p O Q (cz wd x cs ws)):ae tab R k 111 [wp wd.s,wf d,wf p] H Q E:=by
 obtain⟨h,t,l,w,s,m⟩:=x;obtain⟨b1,b2⟩:=ic hb;have f1:b2i (dw (wp Wd.seek.s) (wp "match"))=0:=by decide+kernel
 have f2:b2i (dw (wp Wd.mtch.s) (wp "match"))=1:=by decide+kernel
 have f3:b2i (dw (wp Wd.seek.s) (wp "seek"))=1:=by decide+kernel
 have f4:b2i (dw (wp Wd.mtch.s) (wp "seek"))=0:=by decide+kernel
 have f5:dw (wp Wd.seek.s) (wp "seek")=true:=by decide+kernel
 have f6:dw (wp Wd.mtch.s) (wp "seek")=false:=by decide+kernel
 delta gq;rcases hw with rfl|rfl
 .have q:jY d p O Q (lF ⟨h,t,l,w,s,m⟩ cs ws):=q;walk_at "wd";refine aS (λe=>?_) (λe=>?_)
  .rw[lF,if_pos e]at q;walk_at "wd";rename_i H1 z1;rw[f1]at z1;exact q _ z1
  rw[lF,if_neg e]at q;have b1:bc ws "look" [h]=none:=(congrArg _ (if_neg e)).symm.trans b1;obtain⟨m1,_⟩:=aK b1;obtain⟨g1,g2⟩:=ak m1;rw[if_pos m1]at q;walk_at "wd"
  repeat walk_at "sc"
  refine aI (by grind) (dG g1 nofun) ?_;walk_at "wd";rw[f5]
  by_cases e2:gt cs h=s
  .rw[if_pos e2]at q;rw[E0 e2];walk_at "wd";rename_i H1 z1;rw[f3]at z1;exact q _ z1
  .rw[if_neg e2]at q;rw[E3 e2];walk_at "wd"
   repeat walk_at "sc"
   walk_at "wd";rename_i H1 z1 H2 z2 H3 z3;rw[f1,BW]at z3;rw[AW];exact q _ z3
 .have q:jY d p O Q (gO ⟨h,t,l,w,s,m⟩ cs ws):=q;walk_at "wd";refine aS (λe=>?_) (λe=>?_)
  .rw[gO,if_pos e]at q;walk_at "wd";rename_i H1 z1;rw[f2]at z1;exact q _ z1
  rw[gO,if_neg e]at q;have b1:bc ws "look" [h,t]=none:=(congrArg _ (if_neg e)).symm.trans b1;obtain⟨m1,b3⟩:=aK b1;obtain⟨m2,_⟩:=aK b3;obtain⟨g1,g2⟩:=ak m1;obtain⟨g3,g4⟩:=ak m2;rw[if_pos m1,if_pos m2]at q;walk_at "wd"
  repeat walk_at "sc"
  refine aI (by grind) (dG g3 nofun) ?_;walk_at "wd";refine aI (by grind) (dG g1 nofun) ?_;walk_at "wd";rw[f6]
  by_cases e2:gt cs h=gt cs t
  .rw[if_pos e2]at q;rw[E0 e2];walk_at "wd"
   repeat walk_at "sc"
   walk_at "wd";rename_i H1 z1 H2 z2 H3 z3 H4 z4;rw[f2,BW]at z4;rw[AW];exact q _ z4
  .rw[if_neg e2]at q;rw[E3 e2];walk_at "wd";rename_i H1 z1;rw[f4]at z1;exact q _ z1
def Dt (wd:Wd)(hk:2<=k)(hx:0<=x.l)(hl:cs.length=ws.length)(hb:bM ws (nP wd x) (lQ wd x)=none)(z:Sep (ar d x::pt p (wv (cs.map wn))::O) H)
  (q:jY d p O Q (cz wd x cs ws)):ae tab R k 110 [wp wd.s,wf d,wf p] H Q E:=by
 delta iZ;obtain⟨h,t,l,w,s,m⟩:=x;obtain⟨b1,b2⟩:=ic hb;dsimp only at hx;cases wd
 case seek=>
  walk_at "wd";rename_i p0 H0 z0;refine gh (bp.of z0.at) rfl rfl ?_;left;refine aV (by decide+kernel) ?_;left;refine⟨rfl,?_⟩;left;exact tD .seek (.inl rfl) nofun hl hb z0.drop q
 case mtch=>
  walk_at "wd";rename_i p0 H0 z0;refine gh (bp.of z0.at) rfl rfl ?_;left;refine aV (by decide+kernel) ?_;left;refine⟨rfl,?_⟩;left;exact tD .mtch (.inr rfl) nofun hl hb z0.drop q
 case copy=>
  have q:jY d p O Q (mL ⟨h,t,l,w,s,m⟩ cs ws):=q;walk_at "wd";rename_i p0 H0 z0;refine gh (bp.of z0.at) rfl rfl ?_;left;refine ax (by decide+kernel) ?_
  replace z0:=z0.drop
  walk_at "wd";refine aS (λe=>?_) (λe=>?_)
  .rw[mL,if_pos e]at q;walk_at "wd";exact q _ z0
  have b1:bc ws "look" [h]=none:=(congrArg _ (if_neg e)).symm.trans b1;have b2:bc ws "put" [t]=none:=(congrArg _ (if_neg e)).symm.trans b2;have m1:=(aK b1).1;have m2:=(aK b2).1;obtain⟨g1,g2⟩:=ak m1;obtain⟨g3,g4⟩:=ak m2;rw[mL,if_neg e,hm,if_pos m1,if_pos m2]at q;walk_at "wd";refine aI (by grind) (dG g1 nofun) ?_;walk_at "wd";refine cI z0 .k1 (bT g3 (by rw[ci];omega)) cL (λH1 z1=>?_);walk_at "wd"
  repeat walk_at "sc"
  walk_at "wd";rename_i H2 z2 H3 z3 H4 z4;rw[BW]at z4;rw[nH,BW];exact q _ z4
 case fill=>
  have q:jY d p O Q (mi ⟨h,t,l,w,s,m⟩ cs ws):=q;walk_at "wd";rename_i p0 H0 z0;refine gh (bp.of z0.at) rfl rfl ?_;left;refine ax (by decide+kernel) ?_
  replace z0:=z0.drop
  walk_at "wd";refine aS (λe=>?_) (λe=>?_)
  .rw[mi,if_pos e]at q;walk_at "wd";exact q _ z0
  have b2:bc ws "put" [t]=none:=(congrArg _ (if_neg e)).symm.trans b2;have m2:=(aK b2).1;obtain⟨g3,g4⟩:=ak m2;rw[mi,if_neg e,if_pos m2]at q;walk_at "wd";refine cI z0 .k1 (bT g3 (by rw[ci];omega)) cL (λH1 z1=>?_);walk_at "wd"
  repeat walk_at "sc"
  walk_at "wd";rename_i H2 z2 H3 z3;rw[BW]at z3;rw[nH,BW];exact q _ z3
 case shift=>
  have q:jY d p O Q (gU ⟨h,t,l,w,s,m⟩ cs ws):=q;walk_at "wd";rename_i p0 H0 z0;refine gh (bp.of z0.at) rfl rfl ?_;left;refine ax (by decide+kernel) ?_
  replace z0:=z0.drop
  walk_at "wd";refine aS (λe=>?_) (λe=>?_)
  .rw[gU,if_pos e]at q;walk_at "wd";exact q _ z0
  rw[gU,if_neg e]at q;have b1:bc ws "look" (Dy h t l .shift)=none:=(congrArg _ (if_neg e)).symm.trans b1;have b2:bc ws "put" (Bl h t l .shift)=none:=(congrArg _ (if_neg e)).symm.trans b2;walk_at "wd"
  by_cases e2:t<=h
  .have b1:bc ws "look" [h+0]=none:=(congrArg _ (if_pos e2)).symm.trans b1;have b2:bc ws "put" [t+0]=none:=(congrArg _ (if_pos e2)).symm.trans b2;rw[Int.add_zero]at b1 b2;have m1:=(aK b1).1;have m2:=(aK b2).1;obtain⟨g1,g2⟩:=ak m1;obtain⟨g3,g4⟩:=ak m2;rw[if_pos e2,hm,if_pos m1,if_pos m2]at q;refine aV (decide_eq_true e2) ?_;walk_at "wd";refine aI (by grind) (dG g1 nofun) ?_;walk_at "wd";refine cI z0 .k1 (bT g3 (by rw[ci];omega)) cL (λH1 z1=>?_);walk_at "wd"
   repeat walk_at "sc"
   walk_at "wd";rename_i H2 z2 H3 z3 H4 z4;rw[BW]at z4;rw[nH,BW];exact q _ z4
  .have b1:bc ws "look" [h+(l-1)]=none:=(congrArg _ (if_neg e2)).symm.trans b1;have b2:bc ws "put" [t+(l-1)]=none:=(congrArg _ (if_neg e2)).symm.trans b2;rw[show h+(l-1)=h+l-1 by omega]at b1;rw[show t+(l-1)=t+l-1 by omega]at b2;have m1:=(aK b1).1;have m2:=(aK b2).1;obtain⟨g1,g2⟩:=ak m1;obtain⟨g3,g4⟩:=ak m2;rw[if_neg e2,hm,if_pos m1,if_pos m2]at q;refine ax (decide_eq_false e2) ?_;walk_at "wd";refine aI (by grind) (dG g1 nofun) ?_;walk_at "wd";refine cI z0 .k1 (bT g3 (by rw[ci];omega)) cL (λH1 z1=>?_);walk_at "wd"
   repeat walk_at "sc"
   walk_at "wd";rename_i H2 z2;rw[BW]at z2;rw[nH,BW];exact q _ z2
 case turn=>
  have q:jY d p O Q (mK ⟨h,t,l,w,s,m⟩ cs ws):=q;walk_at "wd";rename_i p0 H0 z0;refine gh (bp.of z0.at) rfl rfl ?_;left;refine ax (by decide+kernel) ?_
  replace z0:=z0.drop
  walk_at "wd";refine aS (λe=>?_) (λe=>?_)
  .rw[mK,if_pos e]at q;walk_at "wd";exact q _ z0
  rw[mK,if_neg e]at q;have b1:bc ws "look" (Dy h t l .turn)=none:=(congrArg _ (if_neg e)).symm.trans b1;have b2:bc ws "put" (Bl h t l .turn)=none:=(congrArg _ (if_neg e)).symm.trans b2;walk_at "wd"
  repeat walk_at "sc"
  refine aJ (λe2=>?_) (λe2=>?_)
  .have b1:bc ws "look" [h,h+l-1]=none:=(congrArg _ (if_neg nofun)).symm.trans b1;have b2:bc ws "put" [h,h+l-1]=none:=(congrArg _ (if_neg nofun)).symm.trans b2;obtain⟨m1,b1⟩:=aK b1;obtain⟨m3,b2⟩:=aK b2;have m2:=(aK b1).1;have m4:=(aK b2).1;obtain⟨g1,g2⟩:=ak m1;obtain⟨g3,g4⟩:=ak m2;rw[if_neg (show ¬ l=1 by omega),xm,if_pos m1,if_pos m2,if_pos m3,if_pos m4]at q;walk_at "wd";refine aI (by grind) (dG g1 nofun) ?_;walk_at "wd";refine aI (by grind) (dG g3 nofun) ?_;walk_at "wd";refine cI z0 .k1 (bT g1 (by rw[ci];omega)) cL (λH1 z1=>?_);walk_at "wd";refine cI z1 .k1 (bT g3 (by rw[ci,length_set];omega)) cL (λH2 z2=>?_);walk_at "wd";rename_i H3 z3 H4 z4;rw[M8]at z4;rw[nH,M8];exact q _ z4
  .have e1:l=1:=by omega
   subst e1;rw[if_pos rfl]at q;walk_at "wd";rename_i H3 z3;rw[nH];exact q _ z3
def jP {ls ps:List Int}{v:Str×Int}{a:Out}(h:bM ws (c::ls) ps=some v)(k:bM ws ls ps=some v->a=.no v.1 v.2):(if ai ws "look" c=true then a else .no "look" c)=.no v.1 v.2:=by
 unfold bM at h k;rw[bc]at h
 by_cases e:ai ws "look" c=true
 .rw[if_pos e]at h⊢;exact k h
 .rw[if_neg e]at h⊢;cases h;rfl
def nS {ps:List Int}{v:Str×Int}{a:Out}(h:bM ws [] (c::ps)=some v)(k:bM ws [] ps=some v->a=.no v.1 v.2):(if ai ws "put" c=true then a else .no "put" c)=.no v.1 v.2:=by
 have h:bc ws "put" (c::ps)=some v:=h;unfold bc at h
 by_cases e:ai ws "put" c=true
 .rw[if_pos e]at h⊢;exact k h
 .rw[if_neg e]at h⊢;cases h;rfl
def jH {v:Str×Int}{a:Out}(h:bM ws [] []=some v):a=.no v.1 v.2:=nomatch (show none=some v from h)
def FD {dd:Str}(hx:0<=x.l)(hb:bM ws (nP wd x) (lQ wd x)=some (dd,c)):cz wd x cs ws=.no dd c:=by
 obtain⟨h,t,l,w,s,m⟩:=x
 by_cases e:l=0
 .have e1:nP wd ⟨h,t,l,w,s,m⟩=[]:=if_pos e;have e2:lQ wd ⟨h,t,l,w,s,m⟩=[]:=if_pos e;rw[e1,e2]at hb;cases hb
 have e1:nP wd ⟨h,t,l,w,s,m⟩=Dy h t l wd:=if_neg e;have e2:lQ wd ⟨h,t,l,w,s,m⟩=Bl h t l wd:=if_neg e;rw[e1,e2]at hb;cases wd
 .exact(if_neg e).trans (jP hb λhb=>nS hb jH)
 .exact(if_neg e).trans (nS hb jH)
 .exact(if_neg e).trans (jP hb jH)
 .exact(if_neg e).trans (jP hb λhb=>jP hb jH)
 .refine(if_neg e).trans ?_
  by_cases e2:t<=h
  .rw[show Dy h t l .shift=[h+0] from if_pos e2,show Bl h t l .shift=[t+0] from if_pos e2,Int.add_zero,Int.add_zero]at hb;exact(if_pos e2).trans (jP hb λhb=>nS hb jH)
  .rw[show Dy h t l .shift=[h+(l-1)] from if_neg e2,show Bl h t l .shift=[t+(l-1)] from if_neg e2,<-Int.add_sub_assoc,<-Int.add_sub_assoc]at hb;exact(if_neg e2).trans (jP hb λhb=>nS hb jH)
 .refine(if_neg e).trans ?_
  by_cases e2:l=1
  .rw[show Dy h t l .turn=[] from if_pos e2,show Bl h t l .turn=[] from if_pos e2]at hb;exact jH hb
  .rw[show Dy h t l .turn=[h,h+l-1] from if_neg e2,show Bl h t l .turn=[h,h+l-1] from if_neg e2]at hb;exact(if_neg e2).trans (jP hb λhb=>jP hb λhb=>nS hb λhb=>nS hb jH)
end
def dJ {xs:List α}(h0:0<=i)(h1:i<xs.length):∃ v,lS xs i=some v/\v ∈ xs:=by
 have hl:i.toNat<xs.length:=by omega
 refine⟨xs[i.toNat],?_,getElem_mem hl⟩;have:=L2.pR (lw hl)
 rwa [Int.toNat_of_nonneg h0]at this
abbrev cE (ws:List Str):Prop:=∀ w ∈ ws,fR w=true
def rC {w:Str}(h:cE ws)(hw:fR w=true):cE (ws.set n w):=λx hx=>by
 rcases List.mem_or_eq_of_mem_set hx with hx|rfl
 .exact h x hx
 .exact hw
def xO (hk:2<=k)(hm:m<=1099511000000)(h1:1<=n)(h60:n<=60)(s:Sep (hand h m::O) H)
  (q:∀ p ws H',ws.length=n->cE ws->Sep (pt p (wv (ws.map wp))::hand h (m+20)::O) H'->Q (wf p) H'):ae tab R k 99 [wf h,wn n] H Q E:=by
 delta gu;walk_at "gd";rename_i l H1 hs1 b H2 hs2 l2 H3 hs3 r H4 r0 r1 hs4;rw[vq,show tz n (wp "open")=(tz n ("open":Str)).map wp by rw[map_replicate]]at hs4;obtain⟨v,hv,hmem⟩:=dJ (xs:=[wn 0,wn 0,wn 1,wn 2,wn 4]) r0 (by simpa using r1);refine aI (by grind) hv ?_;obtain⟨M,rfl,M0,M1⟩:∃ M:Int,v=wn M/\0<=M/\M<=4:=by
  simp only[nw,not_mem_nil,or_false]at hmem;rcases hmem with rfl|rfl|rfl|rfl|rfl
  .exact⟨_,rfl,by omega,by omega⟩
  .exact⟨_,rfl,by omega,by omega⟩
  .exact⟨_,rfl,by omega,by omega⟩
  .exact⟨_,rfl,by omega,by omega⟩
  .exact⟨_,rfl,by omega,by omega⟩
 have hs5:Sep (pt b (wv ((tz n ("open":Str)).map wp))::hand h (m+1)::O) H4:=hs4.sub (by ac_nf);clear hs1 hs2 hs3 hs4 hv hmem;walk_at "gd";refine dh (n:=M.toNat) (λj U H=>∃ y3 y4 y5 y6,∃ ws:List Str,U=[some (wf h),some (wn n),some (wf b),y3,y4,y5,y6]/\ws.length=n/\cE ws/\Sep (pt b (wv (ws.map wp))::hand h (m+1+3*(j:Int))::O) H) ?_ ?_ ?_
 .refine⟨_,_,_,_,_,rfl,length_replicate ..,λw hw=>?_,(aw (n:=m+1+3*((0:Nat):Int)) (hs5.pull .k1) nofun).pull .k1⟩;rw[(List.mem_replicate.mp hw).2]
  decide
 .rintro j U H hj ⟨y3,y4,y5,y6,ws,rfl,hl,hw,hs⟩;clear hs5;walk_at "gd";rename_i l4 H5 hs5 x H6 x0 x1 hs6;obtain⟨v,hv,hmem⟩:=dJ (xs:=[wp "look",wp "shut",wp "look",wp "open"]) x0 (by simpa using x1);refine aI (by grind) hv ?_;obtain⟨wd,rfl,hwd⟩:∃ wd,v=wp wd/\fR wd=true:=by
   simp only[nw,not_mem_nil,or_false]at hmem;rcases hmem with rfl|rfl|rfl|rfl<;>exact⟨_,rfl,by decide⟩
  walk_at "gd";rename_i lo H7 lo0 lo1 hs7 d H8 d0 d1 hs8;have hs9:Sep (pt b (wv (ws.map wp))::hand h (m+1+3*((j+1:Nat):Int))::O) H8:=(aw (n:=m+1+3*((j+1:Nat):Int)) (hs8.pull (A:=hand h (m+1+3*(j:Int)+1+1+1)) (by symm)) nofun).sub (by ac_nf);clear hs hs5 hs6 hs7 hs8 hv hmem;refine dh (λi U H=>∃ y6,∃ ws:List Str,U=[some (wf h),some (wn n),some (wf b),some (wn (0+(j:Int))),some (wp wd),some (wn lo),y6]/\ws.length=n/\cE ws/\Sep (pt b (wv (ws.map wp))::hand h (m+1+3*((j+1:Nat):Int))::O) H) ?_ ?_ ?_
  .exact⟨_,ws,rfl,hl,hw,hs9⟩
  .rintro i U H hi ⟨y6,ws,rfl,hl,hw,hs⟩;right;refine cI hs (by ac_rfl) (bT nofun (by rw[ci];omega)) rfl (λH hs=>?_);right;rw[<-List.map_set]at hs;exact⟨_,_,rfl,by rw[length_set];exact hl,rC hw hwd,hs⟩
  .rintro U H ⟨y6,ws,rfl,hl,hw,hs⟩;right;exact⟨_,_,_,_,ws,rfl,hl,hw,hs⟩
 .rintro U H ⟨y3,y4,y5,y6,ws,rfl,hl,hw,hs⟩;right;exact q b ws H hl hw ((aw (n:=m+20) (hs.pull .k1) nofun).pull .k1)
def hW (h0:0<=r)(h1:r<xs.length)(h:∀ v ∈ xs,P v):∃ v,lS xs r=some v/\P v:=by
 obtain⟨v,hv,hm⟩:=dJ h0 h1;exact⟨v,hv,h v hm⟩
abbrev inR (lo hi:Int)(v:V):Prop:=∃ i,v=wn i/\lo<=i/\i<=hi
def inR.mk {lo hi:Int}(h0:lo<=i)(h1:i<=hi):inR lo hi (wn i):=⟨i,rfl,h0,h1⟩
def MO {a b:V}(ha:P a)(hb:P b):∀ v ∈ [a,b],P v:=λv hv=>by
 simp only[nw,not_mem_nil,or_false]at hv;rcases hv with rfl|rfl<;>assumption
def K5 {a b c:V}(ha:P a)(hb:P b)(hc:P c):∀ v ∈ [a,b,c],P v:=λv hv=>by
 simp only[nw,not_mem_nil,or_false]at hv;rcases hv with rfl|rfl|rfl<;>assumption
def Nx {a b c d:V}(ha:P a)(hb:P b)(hc:P c)(hd:P d):∀ v ∈ [a,b,c,d],P v:=λv hv=>by
 simp only[nw,not_mem_nil,or_false]at hv;rcases hv with rfl|rfl|rfl|rfl<;>assumption
def zr {M:Int}(hk:2<=k)(s:Sep (hand h m::O) H)(hm:m<=1099510000000)(hM0:1<=M)(hM1:M<=60)(q:∀ i H',-1000000000<=i->i<=1000000000->Sep (hand h (m+6)::O) H'->Q (wn i) H'):ae tab R k 100 [wf h,wn M] H Q E:=by
 delta jV;walk_at "gd";rename_i wy H1 w0 w1 hs1;refine aJ (λe=>?_) (λe=>?_)
 .walk_at "gd";rename_i r H2 r0 r1 hs2;exact q _ _ nofun nofun (aw hs2 nofun)
 walk_at "gd";refine aJ (λe2=>?_) (λe2=>?_)
 .walk_at "gd";rename_i l H2 hs2;obtain⟨v,hv,i,rfl,i0,i1⟩:=hW (xs:=[wn 0,wn (M-1)]) (P:=inR (-1000000000) 1000000000) (r:=wy-4) nofun (by simp;omega) (MO (.mk nofun nofun) (.mk nofun nofun));refine aI (by grind) hv ?_;exact q _ _ i0 i1 (aw (hs2.sub (by ac_nf)) nofun)
 walk_at "gd";refine aS (λe3=>?_) (λe3=>?_)
 .walk_at "gd";rename_i a H2 a0 a1 hs2 b H3 b0 b1 hs3 l H4 hs4 c H5 c0 c1 hs5;obtain⟨v,hv,i,rfl,i0,i1⟩:=hW (xs:=[wn (-1-a),wn (M+b)]) (P:=inR (-1000000000) 1000000000) (r:=c) c0 (by simp;omega) (MO (.mk nofun nofun) (.mk nofun nofun));refine aI (by grind) hv ?_;exact q _ _ i0 i1 (aw (hs5.sub (by ac_nf)) nofun)
 walk_at "gd";rename_i a H2 a0 a1 hs2 b H3 b0 b1 hs3 c H4 c0 c1 hs4 l H5 hs5 d H6 d0 d1 hs6;rw[fg]at hs6;obtain⟨v,hv,i,rfl,i0,i1⟩:=hW (xs:=[wn (1000000000-a),wn (b-1000000000),wn c]) (P:=inR (-1000000000) 1000000000) (r:=d) d0 (by simp;omega) (K5 (.mk nofun nofun) (.mk nofun nofun) (.mk nofun nofun));refine aI (by grind) hv ?_;exact q _ _ i0 i1 (aw (hs6.sub (by ac_nf)) nofun)
abbrev cw:Nat->lV->lV
 |0,b=>b
 |n+1,.cons _ r=>cw n r
 |_+1,.nil=>.nil
def qX {p:Addr}{lf wy:Int}{cs:List Int}{v5 v6 v7:Option V}(hk:3<=k)(s:Sep (hand h m::pt p (wv (cs.map wn))::O) H)(hm:m<=1099509500000)(h1:1<=cs.length)(h60:cs.length<=60)(hc:cA cs)(l0:0<=lf)(l1:lf<=1000000000)
  (q:∀ d x H',Bx.ok x->Sep (ar d x::hand h (m+20)::pt p (wv (cs.map wn))::O) H'->Q (wf d) H'):
  wB (cw 4 g9.body) ⟨tab,R,ae tab R (k-1),true⟩ { nx:=λ_ H'=>Q wr H',rt:=Q } (λ_=>E) [some (wf h),some (wf p),some (wn cs.length),some (wn wy),some (wn lf),v5,v6,v7] H:=by
 walk_at "gd";rename_i r H1 r0 r1 hs1;refine aI (by grind) (dG r0 r1) ?_;walk_at "gd";refine yw (m:=m+1) nofun hs1 nofun (λct H2 c0 c1 hs2=>?_);walk_at "gd";rename_i l2 H3 hs3 r3 H4 r30 r31 hs4;obtain⟨v,hv,sg,rfl,sg0,sg1⟩:=hW (xs:=[wn (gt cs r),wn ct]) (P:=inR 0 1000000000) (r:=r3 / 3) nofun (by simp;omega) (MO (.mk (oq hc).1 (oq hc).2) (.mk c0 c1));refine aI (by grind) hv ?_;walk_at "gd";refine zr (m:=m+5) (O:=pt p (wv (cs.map wn))::O) nofun (aw (hs4.sub (by ac_nf)) nofun) nofun nofun nofun (λhh H5 hh0 hh1 hs5=>?_);walk_at "gd";refine zr (m:=m+11) nofun (aw hs5 nofun) nofun nofun nofun (λtt H6 tt0 tt1 hs6=>?_);walk_at "gd";rename_i w2 H7 w20 w21 hs7;intro d hd;have hs8:=hs7.new (o:=.dK []) hd;generalize upd H7 d (.dK [])=H8 at hs8⊢;walk_at "gd";rename_i mt H9 mt0 mt1 hs9;refine Af hs9 (by ac_rfl) (λH10 hs10=>?_);refine q d ⟨hh,tt,lf,1-2*w2,sg,mt⟩ H10 ?_ ((aw hs10 nofun).pull .k1);refine⟨⟨hh0,hh1⟩,⟨tt0,tt1⟩,⟨l0,l1⟩,?_,⟨sg0,sg1⟩,?_⟩<;>dsimp only<;>omega
def G4 {p:Addr}{cs:List Int}(hk:3<=k)(s:Sep (hand h m::pt p (wv (cs.map wn))::O) H)(hm:m<=1099509000000)(h1:1<=cs.length)(h60:cs.length<=60)(hc:cA cs)
  (q:∀ d x H',Bx.ok x->Sep (ar d x::hand h (m+30)::pt p (wv (cs.map wn))::O) H'->Q (wf d) H'):ae tab R k 101 [wf h,wf p] H Q E:=by
 delta g9;right;rw[ci];walk_at "gd";rename_i wy H1 w0 w1 hs1 a H2 a0 a1 hs2 b H3 b0 b1 hs3 c H4 c0 c1 hs4 l1 H5 hs5;obtain⟨v,hv,lf,rfl,lf0,lf1⟩:=hW (xs:=[wn a,wn b,wn (cs.length+c)]) (P:=inR 0 1000000000) (r:=wy % 3) nofun (by simp;omega) (K5 (.mk nofun nofun) (.mk nofun nofun) (.mk nofun nofun));refine aI (by grind) hv ?_;have hs6:Sep (hand h (m+9)::pt p (wv (cs.map wn))::O) H5:=aw (hs5.sub (by ac_nf)) nofun;clear hs1 hs2 hs3 hs4 hs5 hv;left;refine wj rfl rfl ?_;left;refine aS (λe=>?_) (λe=>?_)
 .right;refine ux nofun hs6 nofun nofun nofun (λr H7 r0 r1 hs7=>?_);rw[fg];exact qX (m:=m+10) hk (aw hs7 nofun) nofun h1 h60 hc nofun nofun (λd x H' hx hs=>q d x H' hx (by rw[show m+30=m+10+20 by omega];exact hs))
 .exact qX (m:=m+10) hk (aw hs6 nofun) nofun h1 h60 hc lf0 lf1 (λd x H' hx hs=>q d x H' hx (by rw[show m+30=m+10+20 by omega];exact hs))
def zu {w:Str}{i:Nat}:kG w ws i 1=ws.set i w:=by
 show(kG w ws i 0).set (i+0) w=_
 rfl
abbrev half (ws:List Str)(n:Nat):List Str:=ws.take n++tz (ws.length-n) ("open":Str)
def A3 (h:n<=ws.length):(half ws n).length=ws.length:=by
 unfold half;rw[cr,dl,length_replicate]
 omega
def BN {w:Str}(h:ws[n]? =some w):(half ws n).set n w=half ws (n+1):=by
 obtain⟨hn,e⟩:=ul.mp h;unfold half;have l1:(ws.take n).length=n:=by rw[dl];omega
 rw[List.set_append,l1,if_neg nofun,Nat.sub_self,show ws.length-n=(ws.length-(n+1))+1 by omega,replicate_succ,List.set_cons_zero,take_succ,h];simp
def GW:half ws 0=tz ws.length ("open":Str):=by unfold half;simp
def Ip:half ws ws.length=ws:=by unfold half;simp
def qK {cs:List Int}{j:Int}{w:Str}(ro:Ro K R)(hk:3<=k)(z:Sep O H)(r:aH (aC R a cs ws) (aC R a cs (kG w ws i.toNat (j-i).toNat)) O Γ')(h0:0<=i)(h1:i<=j)(h2:j<=ws.length)(hw:fR w=true)(q:∀ H',Sep Γ' H'->Q wr H'):ae tab R k 89 [wf a,wn i,wn j,wp w] H Q E:=by
 obtain⟨Δ,p1,p2⟩:=r.bE;obtain⟨ok,z2⟩:=fK (z.pull p1);have hwi:bj ws.length (wn i) (wn j)=true:=by simp[bj,h0,h1,h2]
 refine CG (t1:="int") (t2:="int") (t3:="str") ro hk z2 (by rw[ci];exact ok.1) (by have:=ok.1;have:=ok.2.2.1;omega) rfl rfl rfl (λa' b' w' e1 e2 e3 _ _ H' z3=>?_) (λhb=>absurd hb ?_)
 .cases e1;cases e2;cases e3;refine q H' (Sep.push p2 (gA ⟨?_,ok.2⟩ z3));rw[ma];exact ok.1
 .rw[hwi];show ¬ (true&&fR w)=false;rw[hw]
  decide
def AS {p:Addr}{cs:List Int}(ro:Ro K R)(hk:5<=k)(h1:1<=cs.length)(h60:cs.length<=60)(hc:cA cs)(hl:cs.length=ws.length)(hw:cE ws)(z:Sep (pt p (wv (cs.map wn))::pt lv (wv (ws.map wp))::O) H)
  (q:∀ a H',Sep (aC R a cs ws::pt p (wv (cs.map wn))::pt lv (wv (ws.map wp))::O) H'->Q (wf a) H'):ae tab R k 112 [wf p,wf lv] H Q E:=by
 delta iW;right;rename_i l H1 z1;intro a dx g1 g2 g3;refine wg ro nofun h1 h60 hc (gk z1 g1 g2 g3) .e (λH2 z2=>⟨rfl,?_⟩);right;rw[hl]at z2;refine dh (λj U H=>∃ v,U=[some (wf p),some (wf lv),some (wf a),v]/\Sep (aC R a cs (half ws j)::pt l (wv (cs.map wn))::pt p (wv (cs.map wn))::pt lv (wv (ws.map wp))::O) H) ?_ ?_ ?_
 .refine⟨none,rfl,?_⟩;rw[GW];exact z2
 .rintro j U H hj ⟨v,rfl,hs⟩;rw[sK,ci]at hj;have hj2:j<ws.length:=by omega
  have e1:ws[j]? =some ws[j]:=lw hj2;generalize ws[j]=w at e1;right;refine af bg hs .e rfl rfl ?_;right;refine aI (by grind) (v:=wp w) ?_ ?_
  .refine aY nofun ?_;rw[show(0+(j:Int)).toNat=j by omega,io,e1]
   rfl
  right;refine qK (i:=0+(j:Int)) (j:=0+(j:Int)+1) ro nofun hs .e nofun nofun (by rw[A3 nofun];omega) (hw w (db e1)) (λH3 z3=>?_);right;refine⟨_,rfl,?_⟩;rw[show(0+(j:Int)+1-(0+(j:Int))).toNat=1 by omega,show(0+(j:Int)).toNat=j by omega,zu,BN e1]at z3;exact z3
 .rintro U H ⟨v,rfl,hs⟩;rw[sK,ci,hl,Ip]at hs;right;exact q a H (by walk_at "sp")
def yY (ro:Ro K R)(hk:5<=k)(hx:x.ok)(z:Sep (ar d x::O) H)(q:∀ b H',Sep (au R b x::ar d x::O) H'->Q (wf b) H'):ae tab R k 113 [wf d] H Q E:=by
 obtain⟨h,t,l,w,s,m⟩:=x;delta hX;walk_at "wd";intro b dx g1 g2 g3;exact rY ro nofun hx (gk z g1 g2 g3) (λH2 z2=>⟨rfl,q b H2 z2⟩)
abbrev Wd.cl:Wd->Nat
 | .copy=>21
 | .fill=>22
 | .seek=>23
 | .mtch=>24
 | .shift=>25
 | .turn=>26
def HD (wd:Wd)(hk:1<=k)(z:Sep O H)(q:∀ d H',Sep (dd R d wd.cl::O) H'->Q (wf d) H'):ae tab R k 104 [wp wd.s] H Q E:=by
 delta j9;right;refine yu z (λa1 d1 H1 z1=>?_);right;refine yu z1 (λa2 d2 H2 z2=>?_);right;refine yu z2 (λa3 d3 H3 z3=>?_);right;refine yu z3 (λa4 d4 H4 z4=>?_);right;refine yu z4 (λa5 d5 H5 z5=>?_);right;refine yu z5 (λa6 d6 H6 z6=>?_);clear z z1 z2 z3 z4 z5;right;rename_i l1 H7 z7 l2 H8 z8;refine⟨l2,_,rfl,z8.at,?_⟩;left;have ex:∃ j:Nat,j<6/\([wp "copy",wp "fill",wp "seek",wp "match",wp "shift",wp "turn"]:List V)[j]? =some (wp wd.s)/\(∀ m,m<j->dw (([wp "copy",wp "fill",wp "seek",wp "match",wp "shift",wp "turn"]:List V).getD m wr) (wp wd.s)=false)/\∃ a d,([wf a1,wf a2,wf a3,wf a4,wf a5,wf a6]:List V)[j]? =some (wf a)/\Sep (pt a (wP (R.cad wd.cl) d [])::pt d (.own a)::O) H8:=by
  cases wd
  .exact⟨0,by decide,rfl,by decide+kernel,a1,d1,rfl,z8.sub (Γ':=pt a1 (wP (R.cad 21) d1 [])::pt d1 (.own a1)::O) (by ac_nf)⟩
  .exact⟨1,by decide,rfl,by decide+kernel,a2,d2,rfl,z8.sub (Γ':=pt a2 (wP (R.cad 22) d2 [])::pt d2 (.own a2)::O) (by ac_nf)⟩
  .exact⟨2,by decide,rfl,by decide+kernel,a3,d3,rfl,z8.sub (Γ':=pt a3 (wP (R.cad 23) d3 [])::pt d3 (.own a3)::O) (by ac_nf)⟩
  .exact⟨3,by decide,rfl,by decide+kernel,a4,d4,rfl,z8.sub (Γ':=pt a4 (wP (R.cad 24) d4 [])::pt d4 (.own a4)::O) (by ac_nf)⟩
  .exact⟨4,by decide,rfl,by decide+kernel,a5,d5,rfl,z8.sub (Γ':=pt a5 (wP (R.cad 25) d5 [])::pt d5 (.own a5)::O) (by ac_nf)⟩
  .exact⟨5,by decide,rfl,by decide+kernel,a6,d6,rfl,z8.sub (Γ':=pt a6 (wP (R.cad 26) d6 [])::pt d6 (.own a6)::O) (by ac_nf)⟩
 obtain⟨j,j6,hj,hm,a,d,ha,zd⟩:=ex;refine LU (j:=j) (λx=>dw x (wp wd.s)) z8.at (by decide) (λx hx=>⟨0,by decide,.flat ?_ rfl⟩) hj (iY rfl) (λm x h1 h2=>?_) ?_
 .simp only[nw,not_mem_nil,or_false]at hx;rcases hx with rfl|rfl|rfl|rfl|rfl|rfl<;>rfl
 .have:=hm m h1
  rwa [List.getD_eq_getElem?_getD,h2]at this
 .left;refine aI (z8.get .k1) (aY (i:=(j:Int)) nofun (by rw[sK];exact ha)) ?_;left;exact q a H8 (Mc zd)
def F9 {t p:Addr}(h1:H t=some (ww (ns.map wn)))(h2:H p=some (ww (ns.map wn))):dR R.K H 2 (wf t) (wf p) true:=
 Gi (n:=0) h1 h2 rfl λj x y e1 e2=>by
  rw[e1]at e2;cases e2;rw[io]at e1;obtain⟨i,_,rfl⟩:=pc.mp e1;exact rD (t:="int") rfl
def rV:(yK.zip (x.ls.map wn)).map (·.2)=x.ls.map wn:=rfl
def tf {tp:Bool}(s:Sep O H)(e:H d=some (.dK kvs))(h:∀ p H',H p=none->Sep (pt p (FL tp (kvs.map (·.2)))::O) H'->Q (wf p) H'):qN tp (wf d) H Q:=by unfold qN;exact⟨d,kvs,rfl,e,λp hp=>h p _ hp (s.new hp)⟩
def vW {l p:Addr}(h1:H l=some (wv (ws.map wp)))(h2:H p=some (wv (ws.map wp))):dR R.K H 2 (wf l) (wf p) true:=
 sJ (n:=0) h1 h2 λx hx=>by
  obtain⟨z,_,rfl⟩:=List.mem_map.mp hx;exact⟨"str",rfl⟩
inductive Bn where
 |h
 |t
 |l
 |w
 |s
 |m
abbrev Bn.j:Bn->Nat
 | .h=>0
 | .t=>1
 | .l=>2
 | .w=>3
 | .s=>4
 | .m=>5
abbrev Bn.nm:Bn->Str
 | .h=>"here"
 | .t=>"there"
 | .l=>"left"
 | .w=>"way"
 | .s=>"sign"
 | .m=>"met"
def Bn.at (b:Bn):kY[b.j]? =some b.nm:=by cases b<;>rfl
abbrev Bx.g (x:Bx):Bn->Int
 | .h=>x.h
 | .t=>x.t
 | .l=>x.l
 | .w=>x.w
 | .s=>x.s
 | .m=>x.m
abbrev Bx.p (x:Bx)(i:Int):Bn->Bx
 | .h=>⟨i,x.t,x.l,x.w,x.s,x.m⟩
 | .t=>⟨x.h,i,x.l,x.w,x.s,x.m⟩
 | .l=>⟨x.h,x.t,i,x.w,x.s,x.m⟩
 | .w=>⟨x.h,x.t,x.l,i,x.s,x.m⟩
 | .s=>⟨x.h,x.t,x.l,x.w,i,x.m⟩
 | .m=>⟨x.h,x.t,x.l,x.w,x.s,i⟩
def Bx.gl (x:Bx)(b:Bn):x.ls[b.j]? =some (x.g b):=by cases b<;>rfl
def Bx.pl (x:Bx)(i:Int)(b:Bn):x.ls.set b.j i=(x.p i b).ls:=by cases b<;>rfl
abbrev bq (b:Bn)(i:Int):Bool:=bJ b.j (wn i)
def FQ {b:Bn}(h:bq b i=true)(o:x.ok):(x.p i b).ok:=by
 obtain⟨o1,o2,o3,o4,o5,o6⟩:=o;cases b
 .have h:(decide (-1000000000<=i)&&decide (i<=1000000000))=true:=h;have h: -1000000000<=i/\i<=1000000000:=by simpa using h
  exact⟨h,o2,o3,o4,o5,o6⟩
 .have h:(decide (-1000000000<=i)&&decide (i<=1000000000))=true:=h;have h: -1000000000<=i/\i<=1000000000:=by simpa using h
  exact⟨o1,h,o3,o4,o5,o6⟩
 .have h:(decide (0<=i)&&decide (i<=1000000000))=true:=h;have h:0<=i/\i<=1000000000:=by simpa using h
  exact⟨o1,o2,h,o4,o5,o6⟩
 .have h:(i ==1||i == -1)=true:=h;have h:i=1\/i= -1:=by simpa using h
  exact⟨o1,o2,o3,h,o5,o6⟩
 .have h:(decide (0<=i)&&decide (i<=1000000000))=true:=h;have h:0<=i/\i<=1000000000:=by simpa using h
  exact⟨o1,o2,o3,o4,h,o6⟩
 .have h:(i ==0||i ==1)=true:=h;have h:i=0\/i=1:=by simpa using h
  exact⟨o1,o2,o3,o4,o5,h⟩
def EU (h0:0<=r)(h1:r<6):∃ b:Bn,lS [wp "here",wp "there",wp "left",wp "way",wp "sign",wp "met"] r=some (wp b.nm):=by
 have:r=0\/r=1\/r=2\/r=3\/r=4\/r=5:=by omega
 rcases this with rfl|rfl|rfl|rfl|rfl|rfl
 .exact⟨.h,rfl⟩
 .exact⟨.t,rfl⟩
 .exact⟨.l,rfl⟩
 .exact⟨.w,rfl⟩
 .exact⟨.s,rfl⟩
 .exact⟨.m,rfl⟩
def Mu {b:Addr}{n:Bn}(ro:Ro K R)(hk:4<=k)(z:Sep (au R b x::O) H)(q0:bq n i=true->∀ H',Sep (au R b (x.p i n)::O) H'->Q wr H')
  (q1:bq n i=false->∀ e H',Sep (j3 (R.cad 4) [("box",wp n.nm),("number",wn i)] e false::au R b x::O) H'->E e H'):ae tab R k 16 [wf b,wp n.nm,wn i] H Q E:=by
 cases h:bq n i with
 |true=>exact sj ro hk z .e n.at h (x.pl i n) (FQ h) (q0 h)
 |false=>
  obtain⟨o,z2⟩:=dI z;exact uy ro hk z2 n.at rfl h λe d H' z3=>q1 h e H' (jX (Sep.push .k2 (nN o (z3.pull .k2))))
def Aq {b:Addr}{n:Bn}(ro:Ro K R)(hk:2<=k)(z:Sep O H)(p:ah (au R b x) O Δ)(q:Q (wn (x.g n)) H):ae tab R k 15 [wf b,wp n.nm] H Q E:=d9 ro hk (dI (z.pull p)).2 n.at (x.gl n) q
def nz {n:Bn}(z:Sep O H)(p:ah (ar d x) O Δ)(q:Q (wn (x.g n)) H):qR K (wf d) (wp n.nm) H Q:=by
 refine pG (k:=.inr n.nm) (v:=wn (x.g n)) (z.get p) ?_ q;cases n<;>rfl
def BC {n:Bn}{P:Hp->Prop}(z:Sep O H)(r:aH (ar d x) (ar d (x.p i n)) O Γ')(q:∀ H',Sep Γ' H'->P H'):iI (wf d) (wp n.nm) (wn i) H P:=rm z r n.at (x.pl i n) q
inductive Sp where
 |set (b:Bn) (i:Int)
 |add (b:Bn) (i:Int)
 |take (b c:Bn)
 |read (b:Bn)
 |write (b:Bn)
abbrev Sp.w:Sp->Str
 | .set _ _=>"set"
 | .add _ _=>"add"
 | .take _ _=>"take"
 | .read _=>"read"
 | .write _=>"write"
abbrev Sp.b:Sp->Bn
 | .set b _=>b
 | .add b _=>b
 | .take b _=>b
 | .read b=>b
 | .write b=>b
abbrev Sp.tl:Sp->List V
 | .set b i=>[wp "set",wp b.nm,wn i]
 | .add b i=>[wp "add",wp b.nm,wn i]
 | .take b c=>[wp "take",wp b.nm,wp c.nm]
 | .read b=>[wp "read",wp b.nm]
 | .write b=>[wp "write",wp b.nm]
abbrev Sp.cl:Sp->Nat
 | .set _ _=>12
 | .add _ _=>13
 | .take _ _=>14
 | .read _=>15
 | .write _=>16
abbrev Sp.fs:Sp->List (Str×V)
 | .set b i=>[("box",wp b.nm),("number",wn i)]
 | .add b i=>[("box",wp b.nm),("number",wn i)]
 | .take b c=>[("box",wp b.nm),("other",wp c.nm)]
 | .read b=>[("box",wp b.nm)]
 | .write b=>[("box",wp b.nm)]
abbrev Sp.ok:Sp->Prop
 | .set _ i=>-1000000000<=i/\i<=1000000000
 | .add _ i=>-1000000000<=i/\i<=1000000000
 |_=>True
inductive xy where
 |on (x:Bx) (cs:List Int)
 |no (d:Str) (c:Int)
 |nf (b:Bn) (i:Int)
abbrev bF (x:Bx)(cs:List Int)(b:Bn)(i:Int):xy:=if bq b i=true then .on (x.p i b) cs else .nf b i
abbrev kP (x:Bx)(cs:List Int)(ws:List Str):Sp->xy
 | .set b i=>bF x cs b i
 | .add b i=>bF x cs b (x.g b+i)
 | .take b c=>bF x cs b (x.g c)
 | .read b=>if ai ws "look" x.h=true then bF x cs b (gt cs x.h) else .no "look" x.h
 | .write b=>if fh (wn (x.g b))=true then(if ai ws "put" x.t=true then .on x (cs.set x.t.toNat (x.g b)) else .no "put" x.t) else .nf b (x.g b)
abbrev sd (R:Rt)(d:Addr)(sp:Sp):az:=bx λdx:Addr=>[pt d (wP (R.cad sp.cl) dx sp.fs),pt dx (.own d)]
def Az (s:Sep (pt d (wP (R.cad sp.cl) dx sp.fs)::pt dx (.own d)::O) H):Sep (sd R d sp::O) H:=eg dx s
def tm (s:Sep O H)(p:ah (sd R d sp) O Δ):∃ dx,H d=some (wP (R.cad sp.cl) dx sp.fs):=by
 obtain⟨dx,s⟩:=gY (s.pull p);exact⟨dx,Sep.at s⟩
def Kb:Ob R (sd R d sp) d sp.cl (sp.fs.map (·.1)):=by
 rintro H D ⟨dx,D1,D2,_,_,_,⟨_,h⟩,_⟩;exact⟨dx,_,h,rfl⟩
def bL {w:Str}{n:Bn}(ro:Ro K R)(hk:2<=k)(q:Q wr H):ae tab R k 20 [wp w,wp n.nm] H Q E:=by
 delta jW;right;refine pj (t:="str") ro nofun rfl ?_;rw[uG n.at];right;exact q
def fc {w:Str}(ro:Ro K R)(hk:3<=k)(h0: -1000000000<=i)(h1:i<=1000000000)(q:Q wr H):ae tab R k 21 [wp w,wn i] H Q E:=by
 delta fJ;right;refine fw (t:="int") ro nofun rfl ?_;rw[show fN (wn i)=true by simp[fN,h0,h1]];right;exact q
def K3 {x:Addr}{n:Bn}(ro:Ro K R)(hk:4<=k)(h0: -1000000000<=i)(h1:i<=1000000000)(z:Sep (pt x (wP (R.cad 12) dx [])::pt dx (.own x)::O) H)(q:∀ H',Sep (sd R x (.set n i)::O) H'->Q wr H'):ae tab R k 22 [wf x,wp n.nm,wn i] H Q E:=by
 delta fk;right;refine bL ro nofun ?_;right;refine fc ro nofun h0 h1 ?_;right;exact q _ (Az (by assumption))
def Ku {x:Addr}{n:Bn}(ro:Ro K R)(hk:4<=k)(h0: -1000000000<=i)(h1:i<=1000000000)(z:Sep (pt x (wP (R.cad 13) dx [])::pt dx (.own x)::O) H)(q:∀ H',Sep (sd R x (.add n i)::O) H'->Q wr H'):ae tab R k 25 [wf x,wp n.nm,wn i] H Q E:=by
 delta fz;right;refine bL ro nofun ?_;right;refine fc ro nofun h0 h1 ?_;right;exact q _ (Az (by assumption))
def IQ {x:Addr}{n m:Bn}(ro:Ro K R)(hk:4<=k)(z:Sep (pt x (wP (R.cad 14) dx [])::pt dx (.own x)::O) H)(q:∀ H',Sep (sd R x (.take n m)::O) H'->Q wr H'):ae tab R k 28 [wf x,wp n.nm,wp m.nm] H Q E:=by
 delta eJ;right;refine bL ro nofun ?_;right;refine bL ro nofun ?_;right;exact q _ (Az (by assumption))
def IV {x:Addr}{n:Bn}(ro:Ro K R)(hk:4<=k)(z:Sep (pt x (wP (R.cad 15) dx [])::pt dx (.own x)::O) H)(q:∀ H',Sep (sd R x (.read n)::O) H'->Q wr H'):ae tab R k 31 [wf x,wp n.nm] H Q E:=by
 delta eD;right;refine bL ro nofun ?_;right;exact q _ (Az (by assumption))
def KA {x:Addr}{n:Bn}(ro:Ro K R)(hk:4<=k)(z:Sep (pt x (wP (R.cad 16) dx [])::pt dx (.own x)::O) H)(q:∀ H',Sep (sd R x (.write n)::O) H'->Q wr H'):ae tab R k 34 [wf x,wp n.nm] H Q E:=by
 delta dH;right;refine bL ro nofun ?_;right;exact q _ (Az (by assumption))
abbrev lY:V->Bool
 | wn i=>decide (0<=i)&&decide (i<=24)
 |_=>false
abbrev Iv:V->Bool
 | wr=>true
 | wn i=>i ==0||i ==1
 |_=>false
def yr (ro:Ro K R)(hk:2<=k)(ht:tyName v H=some t)(q:Q (.bl (lY v)) H):ae tab R k 59 [v] H Q E:=by
 delta nR;right;refine aR nofun ht ?_;cases fj ht
 case int i=>
  right;refine aJ (λh0=>?_) (λh0=>?_)
  .left;simp only[ro.g_MOST_HOPPED];right;rw[show lY (wn i)=decide (i<=24) by simp[lY,h0]]at q;exact q
  .right;rw[show lY (wn i)=false by simp[lY,h0]]at q;exact q
 all_goals
  right;exact q
def DL (hk:2<=k)(ht:tyName v H=some t)(q:Q (.bl (Iv v)) H):ae tab R k 60 [v] H Q E:=by
 delta vX;right;refine jv ?_;cases fj ht
 case int i=>
  left;refine ax rfl ?_;right;refine aR (t:="int") nofun rfl ?_;right;refine aS (λh0=>?_) (λh0=>?_)
  .right;rw[show Iv (wn i)=true by simp[Iv,h0]]at q;exact q
  .right;rw[show Iv (wn i)=(i ==1) by simp[Iv,h0]]at q;exact q
 case non=>
  left;refine aV rfl ?_;exact q
 all_goals
  left;refine ax rfl ?_;right;refine aR nofun ht ?_;right;exact q
abbrev oV:Option Int->V
 |none=>wr
 |some i=>wn i
abbrev MJ:Option Int->Prop
 |none=>True
 |some i=>i=0\/i=1
abbrev IF (R:Rt)(d:Addr)(n:Int)(o:Option Int):az:=bx λdx:Addr=>[pt d (wP (R.cad 20) dx [("many",wn n),("on",oV o)]),pt dx (.own d)]
def LX {n:Int}(s:Sep (pt d (wP (R.cad 20) dx [("many",wn n),("on",oV o)])::pt dx (.own d)::O) H):Sep (IF R d n o::O) H:=eg dx s
def JT {n:Int}(s:Sep O H)(p:ah (IF R d n o) O Δ):∃ dx,H d=some (wP (R.cad 20) dx [("many",wn n),("on",oV o)]):=by
 obtain⟨dx,s⟩:=gY (s.pull p);exact⟨dx,Sep.at s⟩
def Jf {n:Int}:Ob R (IF R d n o) d 20 ["many","on"]:=by
 rintro H D ⟨dx,D1,D2,_,_,_,⟨_,h⟩,_⟩;exact⟨dx,_,h,rfl⟩
def JG {x:Addr}{n:Int}(ro:Ro K R)(hk:4<=k)(h0:0<=n)(h1:n<=24)(ho:MJ o)(z:Sep (pt x (wP (R.cad 20) dx [])::pt dx (.own x)::O) H)(q:∀ H',Sep (IF R x n o::O) H'->Q wr H'):ae tab R k 61 [wf x,wn n,oV o] H Q E:=by
 delta eY;right;refine yr (t:="int") ro nofun rfl ?_;rw[show lY (wn n)=true by simp[lY,h0,h1]];right;obtain⟨t,ht⟩:∃ t,tyName (oV o) H=some t:=by cases o<;>exact⟨_,rfl⟩
 refine DL nofun ht ?_;rw[show Iv (oV o)=true by cases o with|none=>rfl|some i=>rcases ho with rfl|rfl<;>rfl];right;exact q _ (LX (by assumption))
abbrev IK (n:Int)(o:Option Int)(m:Int):Int:=match o with
 |none=>1+n
 |some i=>if i=m then 1+n else 1
def CP {b:Addr}{n:Int}(ro:Ro K R)(hk:3<=k)(z:Sep O H)(p1:ah (IF R d n o) O Δ){Δ':List az}(p2:ah (au R b x) O Δ')(q:Q (wn (IK n o x.m)) H):ae tab R k 62 [wf d,wf b,v] H Q E:=by
 delta mD;obtain⟨dx,e⟩:=JT z p1;right;refine cy e rfl rfl rfl ?_;right;refine jv ?_;cases o with
 |none=>
  left;refine aV rfl ?_;right;refine cy e rfl rfl rfl ?_;right;exact q
 |some i=>
  left;refine ax rfl ?_;right;refine cy e rfl rfl rfl ?_;right;refine af a8 z p2 rfl rfl ?_;left;refine bB (vs':=[_,_]) rfl ?_;obtain⟨h,t,l,w,s,m⟩:=x;refine Kt ro nofun z p2 ?_;right;have q:Q (wn (if i=m then 1+n else 1)) H:=q;refine aS (λh0=>?_) (λh0=>?_)
  .rw[if_pos h0]at q;right;refine cy e rfl rfl rfl ?_;right;exact q
  .rw[if_neg h0]at q;right;exact q
def kR {n:Bn}(hk:1<=k)(q:Q (.bl (bq n i)) H):ae tab R k 107 [wp n.nm,wn i] H Q E:=by
 delta kj;cases n
 all_goals right
 all_goals repeat walk_at "sc"
 .rw[fg];refine aJ (λh0=>?_) (λh0=>?_)
  .right;rw[fg];rw[show bq .h i=decide (i<=1000000000) by simp[bq,Bn.j,bJ,fN,h0]]at q;exact q
  .right;rw[show bq .h i=false by simp[bq,Bn.j,bJ,fN,h0]]at q;exact q
 .rw[fg];refine aJ (λh0=>?_) (λh0=>?_)
  .right;rw[fg];rw[show bq .t i=decide (i<=1000000000) by simp[bq,Bn.j,bJ,fN,h0]]at q;exact q
  .right;rw[show bq .t i=false by simp[bq,Bn.j,bJ,fN,h0]]at q;exact q
 .refine aJ (λh0=>?_) (λh0=>?_)
  .right;rw[fg];rw[show bq .l i=decide (i<=1000000000) by simp[bq,Bn.j,bJ,fh,h0]]at q;exact q
  .right;rw[show bq .l i=false by simp[bq,Bn.j,bJ,fh,h0]]at q;exact q
 .refine aS (λh0=>?_) (λh0=>?_)
  .right;rw[show bq .w i=true by simp[bq,Bn.j,bJ,nh,h0]]at q;exact q
  .right;rw[show bq .w i=(i == -1) by simp[bq,Bn.j,bJ,nh,h0]]at q;exact q
 .refine aJ (λh0=>?_) (λh0=>?_)
  .right;rw[fg];rw[show bq .s i=decide (i<=1000000000) by simp[bq,Bn.j,bJ,fh,h0]]at q;exact q
  .right;rw[show bq .s i=false by simp[bq,Bn.j,bJ,fh,h0]]at q;exact q
 .refine aS (λh0=>?_) (λh0=>?_)
  .right;rw[show bq .m i=true by simp[bq,Bn.j,bJ,nh,h0]]at q;exact q
  .right;rw[show bq .m i=(i ==1) by simp[bq,Bn.j,bJ,nh,h0]]at q;exact q
inductive Rw where
 |lg (w:Wd)
 |sp (s:Sp)
 |hop (n:Int) (o:Option Int)
abbrev Rw.tl:Rw->List V
 | .lg w=>[wp w.s]
 | .sp s=>s.tl
 | .hop n o=>[wp "hop",wn n,oV o]
abbrev Rw.ok:Rw->Prop
 | .lg _=>True
 | .sp s=>s.ok
 | .hop n o=>(0<=n/\n<=24)/\MJ o
abbrev Rw.cl:Rw->Nat
 | .lg w=>w.cl
 | .sp s=>s.cl
 | .hop _ _=>20
abbrev og (R:Rt)(d:Addr):Rw->az
 | .lg w=>dd R d w.cl
 | .sp s=>sd R d s
 | .hop n o=>IF R d n o
abbrev Rw.fs:Rw->List Str
 | .lg _=>[]
 | .sp s=>s.fs.map (·.1)
 | .hop _ _=>["many","on"]
def EZ (r:Rw):Ob R (og R d r) d r.cl r.fs:=by
 cases r with
 |lg w=>exact J4
 |sp s=>exact Kb
 |hop n o=>exact Jf
def IZ {r:Rw}(z:Sep O H)(p:ah (og R d r) O Δ):∃ dx fs,H d=some (wP (R.cad r.cl) dx fs):=by
 obtain⟨D,k,D1,D2,s1,s2,dj,h1,h2⟩:=z.pull p;obtain⟨dx,fs,e,_⟩:=EZ r H D1 h1;exact⟨dx,fs,e⟩
inductive jf where
 |on (r:Int) (x:Bx) (cs:List Int)
 |no (d:Str) (c:Int)
 |nf (b:Bn) (i:Int)
abbrev ofM:Out->jf
 | .on r x cs=>.on r x cs
 | .no d c=>.no d c
abbrev jL:xy->jf
 | .on x cs=>.on 1 x cs
 | .no d c=>.no d c
 | .nf b i=>.nf b i
abbrev cZ (x:Bx)(cs:List Int)(ws:List Str):Rw->jf
 | .lg w=>ofM (cz w x cs ws)
 | .sp s=>jL (kP x cs ws s)
 | .hop n o=>.on (IK n o x.m) x cs
def xK {cs:List Int}(ro:Ro K R)(hk:5<=k)(z:Sep O H)(p:ah (aC R a cs ws) O Δ)(q:∀ c H',Sep (aC R c cs ws::O) H'->Q (wf c) H'):ae tab R k 94 [wf a] H Q E:=by
 delta fu;have ok:=gP z p;right;rename_i l H1 z1;intro c dx g1 g2 g3;refine wg (cs:=[0]) ro nofun (by decide) (by decide) (λi hi=>by rw[mem_singleton.mp hi];decide) (gk z1 g1 g2 g3) .e (λH2 z2=>⟨rfl,?_⟩);obtain⟨_,z3⟩:=fK z2;obtain⟨dx1,c1,d1,z4⟩:=bz z3;obtain⟨_,z5⟩:=fK (z4.pull (.j2 (.j2 (.t p))));obtain⟨dx2,c2,d2,z6⟩:=bz z5;clear z1 z2 z3 z4 z5;right;rename_i l3 H3 z7 H4 z8 l5 H5 z9 H6 z10;refine q c H6 ?_;have z11:Sep (pt c (wP (R.cad 27) dx1 [("contents",wf l3),("permits",wf l5)])::pt dx1 (.own c)::pt l3 (wv (cs.map wn))::pt l5 (wv (ws.map wp))::pt a (wP (R.cad 27) dx2 [("contents",wf c2),("permits",wf d2)])::pt dx2 (.own a)::pt c2 (wv (cs.map wn))::pt d2 (wv (ws.map wp))::Δ) H6:=z10.sub (by ac_nf);have z12:=gA ok (cx z11);have z13:Sep (pt a (wP (R.cad 27) dx2 [("contents",wf c2),("permits",wf d2)])::pt dx2 (.own a)::pt c2 (wv (cs.map wn))::pt d2 (wv (ws.map wp))::aC R c cs ws::Δ) H6:=z12.sub (by ac_nf);exact Sep.push (.t p) (gA ok (cx z13))
def yy {b:Addr}(ro:Ro K R)(hk:5<=k)(z:Sep O H)(p:ah (au R b x) O Δ)(q:∀ c H',Sep (au R c x::O) H'->Q (wf c) H'):ae tab R k 18 [wf b] H Q E:=by
 obtain⟨o,z2⟩:=dI (z.pull p);refine xG ro hk z2 (λc H' z3=>q c H' ?_);have z4:=nN o z3;have z5:=nN o (z4.pull .k1);exact Sep.push (.t p) z5
abbrev xX (R:Rt)(O:List az)(ds:List V):Prop:=∀ v ∈ ds,∃ a r Δ,v=wf a/\ah (og R a r) O Δ
def vN (r:Rw):tab.oc.contains r.cl=true/\tab.sub.lookup (r.cl,11)=some true:=by
 cases r with
 |lg w=>cases w<;>exact⟨rfl,rfl⟩
 |sp s=>cases s<;>exact⟨rfl,rfl⟩
 |hop n o=>exact⟨rfl,rfl⟩
def qD {l:Addr}(ro:Ro K R)(hk:1<=k)(h0:1<=ds.length)(h1:ds.length<=24)(z:Sep O H)(p:ah (pt l (wv ds)) O Δ)(hd:xX R O ds)(q:∀ H',Sep O H'->Q wr H'):ae tab R k 37 [wf l] H Q E:=by
 delta iK;left;refine jM (t:="list") (Kn (z.get p)) rfl ?_;right;refine fX (z.get p) ?_;right;refine aJ (λh=>?_) (λh=>absurd nofun h);left;simp only[ro.g_MOST_ROWS];right;refine aJ (λh=>?_) (λh=>absurd nofun h);right;refine KH (z.get p) ?_;refine vJ (xs:=ds) (λj U H=>∃ u v,U=[some (wf l),u,v]/\Sep O H) ?_ ?_ ?_ ?_
 .exact⟨none,none,rfl,z⟩
 .rintro j U H ⟨u,v,rfl,hs⟩;exact hs.get p
 .rintro j x T U H hx ⟨u,v,rfl,hs⟩ hT;obtain⟨a,r,Δ',rfl,hp⟩:=hd x (db hx);have hs4:=hs.mY (xs:=[wn j,wf a]) hT;obtain⟨dx,fs,e⟩:=IZ hs4 (.t hp);left;refine⟨T,_,rfl,.inl (bp.of hs4.atT),rfl,?_⟩;generalize upd H T _=H4 at hs4 e⊢;right;refine KC e (vN r).1 (b:=true) (vN r).2 ?_;right;exact⟨_,_,rfl,hs4.drop⟩
 .rintro U H ⟨u,v,rfl,hs⟩;exact q _ hs
def mV {n:Int}(hk:2<=k)(h0:0<=at_)(h1:at_<=n)(q:Q wr H):ae tab R k 38 [wn at_,wn n] H Q E:=by
 delta gw;right;refine aR (t:="int") nofun rfl ?_;right;refine aJ (λh=>?_) (λh=>absurd h0 h);right;refine aJ (λh=>?_) (λh=>absurd h1 h);right;exact q
abbrev jf.bx (x:Bx):jf->Bx
 | .on _ x' _=>x'
 |_=>x
abbrev jf.cs (cs:List Int):jf->List Int
 | .on _ _ cs'=>cs'
 |_=>cs
abbrev Nt (t:Addr):jf->az
 | .on r _ _=>tu t [wn r,wr]
 | .no d c=>bx λte:Addr=>[tu t [wr,wf te],tu te [wp d,wn c]]
 | .nf b _=>bx λte:Addr=>[tu t [wr,wf te],tu te [wp "fit",wp b.nm]]
abbrev c9 (R:Rt)(O:List az)(ds:List V)(rs:List Rw):Prop:=ds.length=rs.length/\∀ (i:Nat) (r:Rw),rs[i]? =some r->∃ a Δ,ds[i]? =some (wf a)/\ah (og R a r) O Δ
variable {rs:List Rw}
def c9.more (h:c9 R O ds rs):c9 R (A::O) ds rs:=⟨h.1,λi r e=>by
 obtain⟨a,Δ,e2,p⟩:=h.2 i r e;exact⟨a,_,e2,.t p⟩⟩
def c9.all (h:c9 R O ds rs):xX R O ds:=λv hv=>by
 obtain⟨i,hi⟩:=List.getElem?_of_mem hv;have hl:=(ul.mp hi).1;obtain⟨a,Δ,e2,p⟩:=h.2 i _ (lw (by rw[<-h.1];exact hl));rw[hi]at e2;cases e2;exact⟨a,_,Δ,rfl,p⟩
structure MU where
 w:Str
 at_:Int
 x:Bx
 cs:List Int
abbrev mS (rs:List Rw)(at_:Int)(x:Bx)(cs:List Int)(ws:List Str):MU:=match rs[at_.toNat]? with
 |none=>⟨"end",at_,x,cs⟩
 |some r=>match cZ x cs ws r with
  | .on n x' cs'=>⟨"on",min (at_+n) rs.length,x',cs'⟩
  |_=>⟨"stop",at_,x,cs⟩
section
variable {m l s b:Addr}{at_:Int}{ds:List V}{rs:List Rw}{x:Bx}{cs:List Int}{ws:List Str}
end
def IG:fin l=0\/fin l=1:=by
 unfold fin
 split
 .exact .inr rfl
 .exact .inl rfl
abbrev idx (wd:Wd)(x:Bx):Int:=match wd with
 | .fill=>x.t
 | .shift=>if x.t<=x.h then x.h else x.h+x.l-1
 |_=>x.h
abbrev dir (wd:Wd)(x:Bx):Int:=match wd with
 | .shift=>if x.t<=x.h then 1 else -1
 | .turn=>1
 |_=>x.w
abbrev gone (n:Nat)(w h h':Int):Prop:=h'=h\/(0<=h/\h<n)/\(h'=h+w\/h'=h+1)
def jj {d:Str}{w h:Int}(m:ai ws d h=true):gone ws.length w h (h+w):=.inr ⟨ak m,.inl rfl⟩
def tR {d:Str}{w h:Int}(m:ai ws d h=true):gone ws.length w h (h+1):=.inr ⟨ak m,.inr rfl⟩
abbrev yR (x x':Bx)(n:Nat):Prop:=x'.w=x.w/\(0<=x.l->0<=x'.l)/\(x.ok->n<=60->x'.ok)
def cF {h' t' l' m':Int}(hh:gone n x.w x.h h')(ht:gone n x.w x.t t')(hl:0<=x.l->0<=l'/\l'<=x.l)(hm:m'=x.m\/m'=0\/m'=1):yR x ⟨h',t',l',x.w,x.s,m'⟩ n:=by
 refine⟨rfl,λz=>(hl z).1,λok hn=>?_⟩;obtain⟨o1,o2,o3,o4,o5,o6⟩:=ok;have b:=hl o3.1;have gg:∀ {h h':Int},gone n x.w h h'-> -1000000000<=h/\h<=1000000000-> -1000000000<=h'/\h'<=1000000000:=λ{h h'} g o=>by
  rcases g with rfl|⟨g,e⟩
  .exact o
  .omega
 exact⟨gg hh o1,gg ht o2,⟨b.1,Int.le_trans b.2 o3.2⟩,o4,o5,hm.elim (λe=>o6.imp (e.trans ·) (e.trans ·)) id⟩
def aB {P:Out->Prop}{c:Prop} [Decidable c] {a b:Out}(h:c->P a)(g:¬ c->P b):P (if c then a else b):=by
 by_cases e:c
 .rw[if_pos e];exact h e
 .rw[if_neg e];exact g e
def IA (e:¬ l=0)(z:0<=l):0<=l+ -1/\l+ -1<=l:=by omega
section
variable {P:Out->Prop}{wd:Wd}{x:Bx}{cs:List Int}{ws:List Str}
def nW {j:Int}{f:List Int->Out}(no:∀ (d:Str) (c:Int),d="look"\/d="put"->P (.no d c)) (h:ai ws "look" i=true->ai ws "put" j=true->P (f (cs.set j.toNat (gt cs i)))):P (hm cs ws i j f):=
 aB (λa=>aB (h a) (λ_=>no _ _ (.inr rfl))) (λ_=>no _ _ (.inl rfl))
def zK (done:∀ x',yR x x' ws.length->P (.on 1 x' cs)) (no:∀ (d:Str) (c:Int),d="look"\/d="put"->P (.no d c))
  (go:∀ x' cs',yR x x' ws.length->cs'.length=cs.length->(0<=idx wd x/\idx wd x<ws.length)/\idx wd x'=idx wd x+dir wd x/\dir wd x'=dir wd x->P (.on (fin x'.l) x' cs')):P (cz wd x cs ws):=by
 have sm:∀ {m':Int},m'=x.m\/m'=0\/m'=1->yR x ⟨x.h,x.t,x.l,x.w,x.s,m'⟩ ws.length:=λe=>cF (.inl rfl) (.inl rfl) (λz=>⟨z,Int.le_refl _⟩) e
 have lk:∀ {c},P (.no "look" c):=no _ _ (.inl rfl);have pu:∀ {c},P (.no "put" c):=no _ _ (.inr rfl);cases wd
 .exact aB (λ_=>done _ (sm (.inl rfl))) λe=>nW no λa b=>go _ _ (cF (jj a) (jj b) (IA e) (.inl rfl)) (length_set ..) ⟨ak a,rfl,rfl⟩
 .exact aB (λ_=>done _ (sm (.inl rfl))) λe=>aB (λb=>go _ _ (cF (.inl rfl) (jj b) (IA e) (.inl rfl)) (length_set ..) ⟨ak b,rfl,rfl⟩) λ_=>pu
 .exact aB (λ_=>done _ (sm (.inr (.inl rfl)))) λe=>aB (λa=>aB (λ_=>done _ (sm (.inr (.inr rfl)))) λ_=>go _ _ (cF (jj a) (.inl rfl) (IA e) (.inr (.inl rfl))) rfl ⟨ak a,rfl,rfl⟩) λ_=>lk
 .exact aB (λ_=>done _ (sm (.inr (.inr rfl)))) λe=>aB (λa=>aB (λb=>aB (λ_=>go _ _ (cF (jj a) (jj b) (IA e) (.inr (.inr rfl))) rfl ⟨ak a,rfl,rfl⟩) λ_=>done _ (sm (.inr (.inl rfl)))) λ_=>lk) λ_=>lk
 .refine aB (λ_=>done _ (sm (.inl rfl))) λe=>aB (λc=>nW no λa b=>go _ _ (cF (tR a) (tR b) (IA e) (.inl rfl)) (length_set ..) ?_) λc=>nW no λa b=>go _ _ (cF (.inl rfl) (.inl rfl) (IA e) (.inl rfl)) (length_set ..) ?_
  .have g:=ak a;unfold idx dir;dsimp only;rw[if_pos c,if_pos c,if_pos nofun,if_pos nofun];exact⟨g,rfl,rfl⟩
  .have g:=ak a;unfold idx dir;dsimp only;rw[if_neg c,if_neg c];exact⟨g,by omega,rfl⟩
 .exact aB (λ_=>done _ (sm (.inl rfl))) λe=>aB (λc=>done _ (cF (.inl rfl) (.inl rfl) (λz=>⟨Int.le_refl _,z⟩) (.inl rfl))) λc=>
   aB (λa=>aB (λ_=>aB (λ_=>aB (λ_=>go _ _ (cF (tR a) (.inl rfl) (λz=>by omega) (.inl rfl)) ((length_set ..).trans (length_set ..)) ⟨ak a,rfl,rfl⟩) λ_=>pu) λ_=>pu) λ_=>lk) λ_=>lk
end
variable {x':Bx}
def tK {cs:List Int}(h:cz wd x cs ws=.on r x' cs'):
  yR x x' ws.length/\cs'.length=cs.length/\(r=0\/r=1)/\(r=0->(0<=idx wd x/\idx wd x<ws.length)/\idx wd x'=idx wd x+dir wd x/\dir wd x'=dir wd x):=by
 revert h
 refine zK (P:=λo=>o=.on r x' cs'->_) (λy w e=>?_) (λ_ _ _ e=>by cases e) (λy c w l g e=>?_)
 .cases e;exact⟨w,rfl,.inr rfl,λz=>by cases z⟩
 .cases e;exact⟨w,l,IG,λ_=>g⟩
def F8 {cs:List Int}(h:cz wd x cs ws=.on r x' cs'):
  (r=0\/r=1)/\x'.w=x.w/\(r=0->0<=idx wd x/\idx wd x<ws.length/\idx wd x'=idx wd x+dir wd x/\dir wd x'=dir wd x):=
 have ⟨w,_,r,g⟩:=tK h
 ⟨r,w.1,λz=>⟨(g z).1.1,(g z).1.2,(g z).2⟩⟩
def Ed {cs:List Int}{r:Rw}{n:Int}(ok:r.ok)(h:cZ x cs ws r=.on n x' cs'):0<=n:=by
 cases r with
 |lg w=>
  have h:ofM (cz w x cs ws)=.on n x' cs':=h;cases e:cz w x cs ws with
  |no d c=>rw[e]at h;cases h
  |on r y ys=>
   rw[e]at h;cases h;rcases(F8 e).1 with rfl|rfl<;>decide
 |hop m o=>
  cases h;have:=ok.1;cases o with
  |none=>show 0<=1+m;omega
  |some i=>
   show 0<=(if i=x.m then 1+m else 1)
   split<;>omega
 |sp s=>
  have h:jL (kP x cs ws s)=.on n x' cs':=h;cases e:kP x cs ws s with
  |on y ys=>rw[e]at h;cases h;decide
  |no d c=>rw[e]at h;cases h
  |nf b i=>rw[e]at h;cases h
def KW {cs:List Int}(h0:0<=at_)(h1:at_<=rs.length)(hn:∀ r ∈ rs,Rw.ok r):0<=(mS rs at_ x cs ws).at_/\(mS rs at_ x cs ws).at_<=rs.length/\((mS rs at_ x cs ws).w="on"\/((mS rs at_ x cs ws).w="end"\/(mS rs at_ x cs ws).w="stop")/\(mS rs at_ x cs ws).at_=at_/\(mS rs at_ x cs ws).x=x/\(mS rs at_ x cs ws).cs=cs):=by
 unfold mS;cases e:rs[at_.toNat]? with
 |none=>exact⟨h0,h1,.inr ⟨.inl rfl,rfl,rfl,rfl⟩⟩
 |some r=>
  have ok:=hn r (db e);dsimp only;cases ho:cZ x cs ws r with
  |no d c=>exact⟨h0,h1,.inr ⟨.inr rfl,rfl,rfl,rfl⟩⟩
  |nf b i=>exact⟨h0,h1,.inr ⟨.inr rfl,rfl,rfl,rfl⟩⟩
  |on n x' cs'=>
   have hn0:0<=n:=Ed ok ho;refine⟨?_,?_,.inl rfl⟩
   .show 0<=min (at_+n) (rs.length:Int)
    omega
   .show min (at_+n) (rs.length:Int)<=rs.length
    omega
def zT {cs:List Int}(hx:0<=x.l)(h:cz wd x cs ws=.on r x' cs'):0<=x'.l/\cs'.length=cs.length:=
 ⟨(tK h).1.2.1 hx,(tK h).2.1⟩
def Jb (h0:0<=r)(h1:r<6):∃ wd:Wd,lS [wp "copy",wp "fill",wp "seek",wp "match",wp "shift",wp "turn"] r=some (wp wd.s):=by
 have:r=0\/r=1\/r=2\/r=3\/r=4\/r=5:=by omega
 rcases this with rfl|rfl|rfl|rfl|rfl|rfl
 .exact⟨.copy,rfl⟩
 .exact⟨.fill,rfl⟩
 .exact⟨.seek,rfl⟩
 .exact⟨.mtch,rfl⟩
 .exact⟨.shift,rfl⟩
 .exact⟨.turn,rfl⟩
def HN (h0:0<=r)(h1:r<3):∃ o:Option Int,lS [wr,wn 0,wn 1] r=some (oV o)/\MJ o:=by
 rcases(by omega:r=0\/r=1\/r=2) with rfl|rfl|rfl
 .exact⟨none,rfl,True.intro⟩
 .exact⟨some 0,rfl,.inl rfl⟩
 .exact⟨some 1,rfl,.inr rfl⟩
abbrev tG (v:V):Prop:=∃ b:Bn,v=wp b.nm
def DK {sz:Int}(hk:2<=k)(s:Sep (hand h m::O) H)(hm:m<=1099510000000)(h0:0<=sz)(h1:sz<=60)(q:∀ t r H',Rw.ok r->Sep (tu t r.tl::hand h (m+10)::O) H'->Q (wf t) H'):ae tab R k 102 [wf h,wn sz] H Q E:=by
 delta jZ;walk_at "gd";rename_i wy H1 wy0 wy1 hs1 p1 H2 hs2 r2 H3 r20 r21 hs3;obtain⟨b,e2⟩:=EU r20 r21;refine aI (by grind) e2 ?_;clear s hs1 hs2;right;refine aJ (λg0=>?_) (λg0=>?_)
 .right;rename_i l4 H4 hs4;obtain⟨wd,e3⟩:=Jb wy0 g0;refine aI (by grind) e3 ?_;right;rename_i t H5 hs5;have z6:Sep (tu t (Rw.tl (.lg wd))::_) _:=hs5.toT;exact q t (.lg wd) _ True.intro ((aw (n:=m+10) (z6.pull (A:=hand h _) (by symm)) nofun).sub (by ac_nf))
 right;refine aJ (λg1=>?_) (λg1=>?_)
 .walk_at "gd";rename_i l4 H4 hs4 r5 H5 r50 r51 hs5;obtain⟨v,e3,b3,rfl⟩:=hW (P:=tG) (xs:=[wp "here",wp "there",wp "left",wp b.nm]) (r:=r5) r50 (by simpa using r51) (Nx ⟨.h,rfl⟩ ⟨.t,rfl⟩ ⟨.l,rfl⟩ ⟨b,rfl⟩);refine aI (by grind) e3 ?_;walk_at "gd";rename_i r6 H6 r60 r61 hs6 r7 H7 r70 r71 hs7 r8 H8 r80 r81 hs8 r9 H9 r90 r91 hs9 l10 H10 hs10;obtain⟨v,e4,i,rfl,i0,i1⟩:=hW (xs:=[wn r7,wn (r8-2),wn (10 ^ Int.toNat 9-r9)]) (P:=inR (-1000000000) 1000000000) (r:=r6 / 3) nofun (by simp;omega) (K5 (.mk nofun nofun) (.mk nofun nofun) (.mk (by rw[fg];omega) (by rw[fg];omega)));refine aI (by grind) e4 ?_;right;rename_i t H11 hs11;have z6:Sep (tu t (Rw.tl (.sp (.set b3 i)))::_) _:=hs11.toT;exact q t (.sp (.set b3 i)) _ ⟨i0,i1⟩ ((aw (n:=m+10) (z6.pull (A:=hand h _) (by symm)) nofun).sub (by ac_nf))
 right;refine aS (λg2=>?_) (λg2=>?_)
 .walk_at "gd";rename_i r6 H6 r60 r61 hs6 r7 H7 r70 r71 hs7 r8 H8 r80 r81 hs8 l10 H10 hs10;obtain⟨v,e4,i,rfl,i0,i1⟩:=hW (xs:=[wn (r7-3),wn r8,wn (-(10 ^ Int.toNat 9))]) (P:=inR (-1000000000) 1000000000) (r:=r6 / 3) nofun (by simp;omega) (K5 (.mk nofun nofun) (.mk nofun nofun) (.mk (by rw[fg];omega) (by rw[fg];omega)));refine aI (by grind) e4 ?_;right;rename_i t H11 hs11;have z6:Sep (tu t (Rw.tl (.sp (.add b i)))::_) _:=hs11.toT;exact q t (.sp (.add b i)) _ ⟨i0,i1⟩ ((aw (n:=m+10) (z6.pull (A:=hand h _) (by symm)) nofun).sub (by ac_nf))
 right;refine aS (λg3=>?_) (λg3=>?_)
 .walk_at "gd";rename_i r6 H6 r60 r61 hs6;obtain⟨c,e3⟩:=EU r60 r61;refine aI (by grind) e3 ?_;right;rename_i t H11 hs11;have z6:Sep (tu t (Rw.tl (.sp (.take b c)))::_) _:=hs11.toT;exact q t (.sp (.take b c)) _ True.intro ((aw (n:=m+10) (z6.pull (A:=hand h _) (by symm)) nofun).sub (by ac_nf))
 right;refine aJ (λg4=>?_) (λg4=>?_)
 .right;rename_i l4 H4 hs4;rcases(by omega:wy=11\/wy=12) with rfl|rfl
  .right;rename_i t H11 hs11;have z6:Sep (tu t (Rw.tl (.sp (.read b)))::_) _:=hs11.toT;exact q t (.sp (.read b)) _ True.intro ((aw (n:=m+10) (z6.pull (A:=hand h _) (by symm)) nofun).sub (by ac_nf))
  .right;rename_i t H11 hs11;have z6:Sep (tu t (Rw.tl (.sp (.write b)))::_) _:=hs11.toT;exact q t (.sp (.write b)) _ True.intro ((aw (n:=m+10) (z6.pull (A:=hand h _) (by symm)) nofun).sub (by ac_nf))
 walk_at "gd";rename_i r6 H6 r60 r61 hs6 l7 H7 hs7 r8 H8 r80 r81 hs8;obtain⟨o,e3,ho⟩:=HN r80 r81;refine aI (by grind) e3 ?_;right;rename_i t H11 hs11;have z6:Sep (tu t (Rw.tl (.hop r6 o))::_) _:=hs11.toT;exact q t (.hop r6 o) _ ⟨⟨by omega,by omega⟩,ho⟩ ((aw (n:=m+10) (z6.pull (A:=hand h _) (by symm)) nofun).sub (by ac_nf))
def y0 {t:Addr}(r:Rw)(ro:Ro K R)(hk:5<=k)(ok:r.ok)(z:Sep (tu t r.tl::O) H)(q:∀ d H',Sep (og R d r::tu t r.tl::O) H'->Q (wf d) H'):ae tab R k 103 [wf t] H Q E:=by
 delta ki;cases r with
 |lg w=>
  have f:∀ x ∈ ([("set":Str),"add","take","read","write","hop"]),dw (wp w.s) (wp x)=false:=by cases w<;>decide+kernel
  right;refine ax (f "set" (by decide)) ?_;right;refine ax (f "add" (by decide)) ?_;right;refine ax (f "take" (by decide)) ?_;right;refine ax (f "read" (by decide)) ?_;right;refine ax (f "write" (by decide)) ?_;right;refine ax (f "hop" (by decide)) ?_;right;exact HD w nofun z q
 |hop n o=>
  right
  repeat walk_at "sc"
  intro d dx g1 g2 g3;exact JG ro nofun ok.1.1 ok.1.2 ok.2 (gk z g1 g2 g3) (λH2 z2=>⟨rfl,q d H2 z2⟩)
 |sp s=>
  cases s with
  |set n i=>
   right
   repeat walk_at "sc"
   intro d dx g1 g2 g3;exact K3 ro nofun ok.1 ok.2 (gk z g1 g2 g3) (λH2 z2=>⟨rfl,q d H2 z2⟩)
  |add n i=>
   right
   repeat walk_at "sc"
   intro d dx g1 g2 g3;exact Ku ro nofun ok.1 ok.2 (gk z g1 g2 g3) (λH2 z2=>⟨rfl,q d H2 z2⟩)
  |take n m=>
   right
   repeat walk_at "sc"
   intro d dx g1 g2 g3;exact IQ ro nofun (gk z g1 g2 g3) (λH2 z2=>⟨rfl,q d H2 z2⟩)
  |read n=>
   right
   repeat walk_at "sc"
   intro d dx g1 g2 g3;exact IV ro nofun (gk z g1 g2 g3) (λH2 z2=>⟨rfl,q d H2 z2⟩)
  |write n=>
   right
   repeat walk_at "sc"
   intro d dx g1 g2 g3;exact KA ro nofun (gk z g1 g2 g3) (λH2 z2=>⟨rfl,q d H2 z2⟩)
def aa {A:az}:∀ {L O Δ:List az},ah A O Δ->ah A (L++O) (L++Δ)
 | [],_,_,h=>h
 |B::L,_,_,h=>.t (aa h)
def lR {α:Type}{f:α->az}{x:α}:∀ {l:List α},x ∈ l->∃ Δ,∀ O,ah (f x) (l.map f++O) (Δ++O)
 |y::l,h=>by
  rcases nw.mp h with rfl|h
  .exact⟨l.map f,λO=>.e⟩
  .obtain⟨Δ,hp⟩:=lR (f:=f) h;exact⟨f y::Δ,λO=>.t (hp O)⟩
abbrev bX (ts:List Addr)(c0:List Int)(g:List (Int×Int)):az:=⟨λH _=>ts.length=g.length/\∀ (i:Nat) t p,ts[i]? =some t->g[i]? =some p->H t=some (ww [wn p.1,wn (gt c0 p.1),wn p.2]),λH H' D h _ k=>⟨h.1,λi t p e1 e2=>k.tup (h.2 i t p e1 e2)⟩,λH D D' h _=>h⟩
def bX.of {g:List (Int×Int)}(s:Sep (bX ts c0 g::O) H):ts.length=g.length/\∀ (i:Nat) t p,ts[i]? =some t->g[i]? =some p->H t=some (ww [wn p.1,wn (gt c0 p.1),wn p.2]):=let⟨D,k,D1,D2,s1,s2,dj,h1,h2⟩:=s;h1
def bX.snoc {g:List (Int×Int)}{t:Addr}{p:Int×Int}(s:Sep (bX ts c0 g::O) H)(h:H t=some (ww [wn p.1,wn (gt c0 p.1),wn p.2])):Sep (bX (ts++[t]) c0 (g++[p])::O) H:=by
 obtain⟨h1,h2⟩:=bX.of s;refine s.drop.free λ_=>⟨by rw[cr,cr,h1];rfl,λn u c e1 e2=>?_⟩
 by_cases e:n<ts.length
 .rw[List.getElem?_append_left e]at e1;rw[List.getElem?_append_left nofun]at e2;exact h2 n u c e1 e2
 .rw[getElem?_append_right nofun]at e1;rw[getElem?_append_right nofun,<-h1]at e2;cases q:n-ts.length with
  |zero=>rw[q]at e1 e2;cases e1;cases e2;exact h
  |succ=>rw[q]at e1;cases e1
abbrev cS (R:Rt)(a s lc:Addr)(c0:List Int)(g:List (Int×Int))(cs:List Int)(ws:List Str):az:=bx λp:Addr×Addr×List Addr=>[pt a (wP (R.cad 18) p.1 [("store",wf s),("before",wf p.2.1),("changes",wf lc)]),pt p.1 (.own a),aC R s cs ws,pt p.2.1 (wv (c0.map wn)),pt lc (wv (p.2.2.map wf)),bX p.2.2 c0 g,pu (c0.length=cs.length/\g.length<=10)]
section
variable {a s lc:Addr}{c0 cs:List Int}{g:List (Int×Int)}{ws:List Str}{i:Int}
def tF (z:Sep (cS R a s lc c0 g cs ws::O) H):∃ dx lb ts,(c0.length=cs.length/\g.length<=10)/\Sep (pt a (wP (R.cad 18) dx [("store",wf s),("before",wf lb),("changes",wf lc)])::pt dx (.own a)::aC R s cs ws::pt lb (wv (c0.map wn))::pt lc (wv (ts.map wf))::bX ts c0 g::O) H:=by
 obtain⟨⟨dx,lb,ts⟩,z⟩:=gY z;have z:Sep (pt a (wP (R.cad 18) dx [("store",wf s),("before",wf lb),("changes",wf lc)])::pt dx (.own a)::aC R s cs ws::pt lb (wv (c0.map wn))::pt lc (wv (ts.map wf))::bX ts c0 g::pu (c0.length=cs.length/\g.length<=10)::O) H:=z;exact⟨dx,lb,ts,(z.drop.drop.drop.drop.drop.drop).pure,z.sub (by ac_nf)⟩
def vy {lb:Addr}(h:c0.length=cs.length/\g.length<=10)(z:Sep (pt a (wP (R.cad 18) dx [("store",wf s),("before",wf lb),("changes",wf lc)])::pt dx (.own a)::aC R s cs ws::pt lb (wv (c0.map wn))::pt lc (wv (ts.map wf))::bX ts c0 g::O) H):Sep (cS R a s lc c0 g cs ws::O) H:=by
 refine eg (dx,lb,ts) ?_;have z2:=Sep.push (.j2 (.t .k3)) (Sep.jq h z);exact z2
def eW (z:Sep O H)(p:ah (cS R a s lc c0 g cs ws) O Δ):xQ cs ws/\c0.length=cs.length/\g.length<=10:=by
 obtain⟨dx,lb,ts,h,z⟩:=tF (z.pull p);exact⟨gP z .k2,h⟩
def dy:Ob R (cS R a s lc c0 g cs ws) a 18 ["store","before","changes"]:=by
 rintro H D ⟨⟨dx,lb,ts⟩,D1,D2,_,_,_,⟨_,h⟩,_⟩;exact⟨dx,_,h,rfl⟩
def HB {d:Str}(hk:3<=k)(z:Sep O H)(p:ah (cS R a s lc c0 g cs ws) O Δ)(q:Q (.bl (ai ws d i)) H):ae tab R k 50 [wf a,wp d,wn i] H Q E:=by
 obtain⟨dx,lb,ts,h,z1⟩:=tF (z.pull p);delta jG;right;refine af bg z1 .k2 rfl rfl ?_;left;exact HY nofun z1 .k2 q
def dU (hk:4<=k)(z:Sep O H)(p:ah (cS R a s lc c0 g cs ws) O Δ)(q0:ai ws "look" i=true->Q (wn (gt cs i)) H)
  (q1:ai ws "look" i=false->∀ e H',Sep (j3 (R.cad 3) [("deed",wp "look"),("cell",wn i)] e false::O) H'->E e H'):ae tab R k 51 [wf a,wn i] H Q E:=by
 obtain⟨dx,lb,ts,h,z1⟩:=tF (z.pull p);delta i8;right;refine af bg z1 .k2 rfl rfl ?_;left;refine Ce nofun z1 .k2 q0 (λhm e H' z2=>q1 hm e H' ?_);have z3:=vy h (z2.sub (Γ':=pt a (wP (R.cad 18) dx [("store",wf s),("before",wf lb),("changes",wf lc)])::pt dx (.own a)::aC R s cs ws::pt lb (wv (c0.map wn))::pt lc (wv (ts.map wf))::bX ts c0 g::j3 (R.cad 3) [("deed",wp "look"),("cell",wn i)] e false::Δ) (by ac_nf));exact Sep.push (.t p) z3
def mw {v:Int}(hk:4<=k)(hg:g.length<10)(z:Sep O H)(r:aH (cS R a s lc c0 g cs ws) (cS R a s lc c0 (g++[(i,v)]) (cs.set i.toNat v) ws) O Γ')(hv:0<=v/\v<=1000000000)(q0:ai ws "put" i=true->∀ H',Sep Γ' H'->Q wr H')
  (q1:ai ws "put" i=false->∀ e H',Sep (j3 (R.cad 3) [("deed",wp "put"),("cell",wn i)] e false::O) H'->E e H'):ae tab R k 52 [wf a,wn i,wn v] H Q E:=by
 obtain⟨Δ,p,p'⟩:=r.bE;obtain⟨dx,lb,ts,h,z1⟩:=tF (z.pull p);have o1:=(gP z1 .k2).1;have h1:=h.1;have hts:=(bX.of (z1.pull (.j2 .k3))).1;delta j5;right;refine af bg z1 .k2 rfl rfl ?_;left;refine Ie (v:=v) nofun z1 .k2 hv (λhm H1 z2=>?_) (λhm e H' z2=>q1 hm e H' ?_)
 .have hin:=ak hm;clear z1;left;refine cy z2.at rfl rfl rfl ?_;left;refine⟨lc,_,rfl,z2.get (.t .k3),?_⟩;left;refine cy z2.at rfl rfl rfl ?_;left;refine aI (z2.get .k3) (dG hin.1 nofun) ?_;left;refine Ac z2 (re rfl) (λt H2 z3=>?_);refine⟨_,z3.get (.j2 .k3),lM z3 (.j2 .k3) (by rw[ci];omega) (λH3 z4=>?_)⟩;have z5:=bX.snoc (p:=(i,v)) (z4.pull (.j2 (.t .k3))) z4.at;have em:ts.map wf++[wf t]=(ts++[t]).map wf:=by rw[f8];rfl
  rw[em]at z5;refine q0 hm H3 (Sep.push p' (vy (dx:=dx) (lb:=lb) (ts:=ts++[t]) ⟨by rw[length_set];exact h.1,by rw[cr,ge];omega⟩ (z5.sub (by ac_nf))))
 .have z3:=vy h (z2.sub (Γ':=pt a (wP (R.cad 18) dx [("store",wf s),("before",wf lb),("changes",wf lc)])::pt dx (.own a)::aC R s cs ws::pt lb (wv (c0.map wn))::pt lc (wv (ts.map wf))::bX ts c0 g::j3 (R.cad 3) [("deed",wp "put"),("cell",wn i)] e false::Δ) (by ac_nf));exact Sep.push (.t p) z3
end
section
variable {b a sa lc:Addr}{h t l w s m i j by':Int}{c0 cs:List Int}{ws:List Str}
def tU (hk:5<=k)(z:Sep O H)(r:aH (cS R a sa lc c0 [] cs ws) (cS R a sa lc c0 [(j,gt cs i)] (cs.set j.toNat (gt cs i)) ws) O Γ')(q0:ai ws "look" i=true->ai ws "put" j=true->∀ H',Sep Γ' H'->Q wr H')
  (q1:ai ws "look" i=false->∀ e H',Sep (j3 (R.cad 3) [("deed",wp "look"),("cell",wn i)] e false::O) H'->E e H')
  (q2:ai ws "look" i=true->ai ws "put" j=false->∀ e H',Sep (j3 (R.cad 3) [("deed",wp "put"),("cell",wn j)] e false::O) H'->E e H'):ae tab R k 68 [wf a,wn i,wn j] H Q E:=by
 obtain⟨Δ,p1,p2⟩:=r.bE;have ok:=(eW z p1).1;delta BP;right;refine af dy z p1 rfl rfl ?_;left;refine dU nofun z p1 (λhm=>?_) q1;right;refine af dy z p1 rfl rfl ?_;left;refine mw (g:=[]) nofun (by decide) z r (oq ok.2.2.2) (λhp H1 z1=>?_) (q2 hm);right;exact q0 hm hp H1 z1
def pd (hk:4<=k)(z:Sep O H)(p:ah (cS R a sa lc c0 [] cs ws) O Δ)(q0:ai ws "put" i=true->Q wr H)
  (q1:ai ws "put" i=false->∀ e H',Sep (j3 (R.cad 3) [("deed",wp "put"),("cell",wn i)] e false::O) H'->E e H'):ae tab R k 67 [wf a,wn i] H Q E:=by
 delta oO;right;refine af dy z p rfl rfl ?_;left;refine HB nofun z p ?_;right;refine bY (λhm=>?_) (λhm=>?_)
 .right;exact q0 hm
 .right;intro x hx;refine fA nofun (z.new hx) (λd H hs=>?_);right;exact fS hs (by ac_rfl) rfl (λH hs=>q1 hm x H (jX hs))
def uK {Γf:Int->Int->List az}(hk:5<=k)(z:Sep O H)(r:∀ v w:Int,∃ Γ1,aH (cS R a sa lc c0 [] cs ws) (cS R a sa lc c0 [(i,v)] (cs.set i.toNat v) ws) O Γ1/\aH (cS R a sa lc c0 [(i,v)] (cs.set i.toNat v) ws) (cS R a sa lc c0 [(i,v),(j,w)] ((cs.set i.toNat v).set j.toNat w) ws) Γ1 (Γf v w)) (q0:ai ws "look" i=true->ai ws "look" j=true->ai ws "put" i=true->ai ws "put" j=true->∀ H',Sep (Γf (gt cs j) (gt cs i)) H'->Q wr H')
  (q1:ai ws "look" i=false->∀ e H',Sep (j3 (R.cad 3) [("deed",wp "look"),("cell",wn i)] e false::O) H'->E e H')
  (q2:ai ws "look" i=true->ai ws "look" j=false->∀ e H',Sep (j3 (R.cad 3) [("deed",wp "look"),("cell",wn j)] e false::O) H'->E e H')
  (q3:ai ws "look" i=true->ai ws "look" j=true->ai ws "put" i=false->∀ e H',Sep (j3 (R.cad 3) [("deed",wp "put"),("cell",wn i)] e false::O) H'->E e H')
  (q4:ai ws "look" i=true->ai ws "look" j=true->ai ws "put" i=true->ai ws "put" j=false->∀ e H',Sep (j3 (R.cad 3) [("deed",wp "put"),("cell",wn j)] e false::O) H'->E e H'):ae tab R k 69 [wf a,wn i,wn j] H Q E:=by
 obtain⟨Γ1,r1,r2⟩:=r (gt cs j) (gt cs i);obtain⟨Δ,p1,p2⟩:=r1.bE;obtain⟨Δ2,p3,p4⟩:=r2.bE;have ok:=(eW z p1).1;delta lW;right;refine af dy z p1 rfl rfl ?_;left;refine dU nofun z p1 (λh1=>?_) q1;right;refine af dy z p1 rfl rfl ?_;left;refine dU nofun z p1 (λh2=>?_) (q2 h1);right;refine pd nofun z p1 (λh3=>?_) (q3 h1 h2);right;refine pd nofun z p1 (λh4=>?_) (q4 h1 h2 h3);right;refine af dy z p1 rfl rfl ?_;left;refine mw (g:=[]) nofun (by decide) z r1 (oq ok.2.2.2) (λhp H1 z1=>?_) (λhp=>absurd (h3.symm.trans hp) (by decide));right;refine af dy z1 p3 rfl rfl ?_;left;refine mw (g:=[_]) nofun (Nat.lt_of_sub_eq_succ rfl) z1 r2 (oq ok.2.2.2) (λhp H2 z2=>?_) (λhp=>absurd (h4.symm.trans hp) (by decide));right;exact q0 h1 h2 h3 h4 H2 z2
end
abbrev gL (x:Bx)(cs:List Int):Wd->List (Int×Int)
 | .copy=>if x.l=0 then[] else[(x.t,gt cs x.h)]
 | .fill=>if x.l=0 then[] else[(x.t,x.s)]
 | .shift=>if x.l=0 then[] else if x.t<=x.h then[(x.t,gt cs x.h)] else[(x.t+x.l-1,gt cs (x.h+x.l-1))]
 | .turn=>if x.l=0 then[] else if x.l=1 then[] else[(x.h,gt cs (x.h+x.l-1)),(x.h+x.l-1,gt cs x.h)]
 |_=>[]
abbrev lT (R:Rt)(b a sa lc:Addr)(c0:List Int)(g:List (Int×Int))(x:Bx)(cs:List Int)(ws:List Str)(O:List az)(Q:VK)(E:XK):Out->Prop
 | .on r x' cs'=>∀ H',Sep (au R b x'::cS R a sa lc c0 g cs' ws::O) H'->Q (wn r) H'
 | .no d c=>∀ e H',Sep (j3 (R.cad 3) [("deed",wp d),("cell",wn c)] e false::au R b x::cS R a sa lc c0 [] cs ws::O) H'->E e H'
section
variable {b a sa lc:Addr}{h t l w s m i j by':Int}{c0 cs:List Int}{ws:List Str}
def zD (ro:Ro K R)(hk:7<=k)(z:Sep (au R b x::cS R a sa lc c0 [] cs ws::O) H)(q:lT R b a sa lc c0 (gL x cs .shift) x cs ws O Q E (gU x cs ws)):ae tab R k 78 [v,wf b,wf a] H Q E:=by
 have ok:=nQ z .e;have sk:=(eW z .k1).1;obtain⟨h,t,l,w,s,m⟩:=x;obtain⟨⟨o1,o2⟩,⟨o3,o4⟩,⟨o5,o6⟩,o7⟩:=ok;dsimp only at o1 o2 o3 o4 o5 o6;obtain⟨s1,s2,s3,s4⟩:=sk;delta iP;walk_at "ws";refine aS (λe=>?_) (λe=>?_)
 .walk_at "ws";rw[gL,gU,if_pos e,if_pos e]at q;exact q H z
 rw[gL,gU,if_neg e,if_neg e]at q;walk_at "ws";refine aJ (λe2=>?_) (λe2=>?_)
 .rw[if_pos e2,if_pos e2]at q;walk_at "ws";refine tU nofun z .k1 (λh1 h2 H1 z1=>?_) (λh1=>?_) (λh1 h2=>?_)
  .have g1:=ak h1;have g2:=ak h2;rw[hm,if_pos h1,if_pos h2]at q;walk_at "ws";refine Gq ro nofun z1 .e nofun (λH2 z2=>?_);walk_at "ws";refine JE ro nofun z2 .e nofun (λH3 z3=>?_);walk_at "ws";exact sQ ro nofun z3 .e nofun (λH4 z4=>q H4 z4)
  .rw[hm,if_neg (by rw[h1];decide)]at q;exact q
  .rw[hm,if_pos h1,if_neg (by rw[h2];decide)]at q;exact q
 .rw[if_neg e2,if_neg e2]at q;walk_at "ws";refine tU nofun z .k1 (λh1 h2 H1 z1=>?_) (λh1=>?_) (λh1 h2=>?_)
  .rw[hm,if_pos h1,if_pos h2]at q;walk_at "ws";exact sQ ro nofun z1 .e nofun (λH4 z4=>q H4 z4)
  .rw[hm,if_neg (by rw[h1];decide)]at q;exact q
  .rw[hm,if_pos h1,if_neg (by rw[h2];decide)]at q;exact q
def El (ro:Ro K R)(hk:7<=k)(z:Sep (au R b x::cS R a sa lc c0 [] cs ws::O) H)(q:lT R b a sa lc c0 (gL x cs .turn) x cs ws O Q E (mK x cs ws)):ae tab R k 80 [v,wf b,wf a] H Q E:=by
 have ok:=nQ z .e;have sk:=(eW z .k1).1;obtain⟨h,t,l,w,s,m⟩:=x;obtain⟨⟨o1,o2⟩,⟨o3,o4⟩,⟨o5,o6⟩,o7⟩:=ok;dsimp only at o1 o2 o3 o4 o5 o6;obtain⟨s1,s2,s3,s4⟩:=sk;delta jQ;walk_at "ws";refine aS (λe=>?_) (λe=>?_)
 .walk_at "ws";rw[gL,mK,if_pos e,if_pos e]at q;exact q H z
 rw[gL,mK,if_neg e,if_neg e]at q;walk_at "ws";refine aS (λe2=>?_) (λe2=>?_)
 .rw[if_pos e2,if_pos e2]at q;walk_at "ws";refine sQ ro nofun z .e nofun (λH4 z4=>?_);subst e2;exact q H4 z4
 .rw[if_neg e2,if_neg e2]at q;walk_at "ws";refine uK (Γf:=λv w'=>au R b ⟨h,t,l,w,s,m⟩::cS R a sa lc c0 [(h,v),(h+l-1,w')] ((cs.set h.toNat v).set (h+l-1).toNat w') ws::O) nofun z (λv w=>⟨_,.t .e,.t .e⟩) (λh1 h2 h3 h4 H1 z1=>?_) (λh1=>?_) (λh1 h2=>?_) (λh1 h2 h3=>?_) (λh1 h2 h3 h4=>?_)
  .have g1:=ak h1;rw[xm,if_pos h1,if_pos h2,if_pos h3,if_pos h4]at q;walk_at "ws";refine Gq ro nofun z1 .e nofun (λH2 z2=>?_);walk_at "ws";exact sQ ro nofun z2 .e nofun (λH4 z4=>q H4 z4)
  .rw[xm,if_neg (by rw[h1];decide)]at q;exact q
  .rw[xm,if_pos h1,if_neg (by rw[h2];decide)]at q;exact q
  .rw[xm,if_pos h1,if_pos h2,if_neg (by rw[h3];decide)]at q;exact q
  .rw[xm,if_pos h1,if_pos h2,if_pos h3,if_neg (by rw[h4];decide)]at q;exact q
def CM (ro:Ro K R)(hk:8<=k)(z:Sep (au R b x::cS R a sa lc c0 [] cs ws::O) H)(q:lT R b a sa lc c0 (gL x cs .copy) x cs ws O Q E (mL x cs ws)):ae tab R k 70 [v,wf b,wf a] H Q E:=by
 have ok:=nQ z .e;have sk:=(eW z .k1).1;obtain⟨h,t,l,w,s,m⟩:=x;obtain⟨⟨o1,o2⟩,⟨o3,o4⟩,⟨o5,o6⟩,o7,o8⟩:=ok;dsimp only at o1 o2 o3 o4 o5 o6 o7;obtain⟨s1,s2,s3,s4⟩:=sk;delta j4;walk_at "ws";refine aS (λe=>?_) (λe=>?_)
 .walk_at "ws";rw[gL,mL,if_pos e,if_pos e]at q;exact q H z
 rw[gL,mL,if_neg e,if_neg e]at q;walk_at "ws";refine tU nofun z .k1 (λh1 h2 H1 z1=>?_) (λh1=>?_) (λh1 h2=>?_)
 .have g1:=ak h1;have g2:=ak h2;rw[hm,if_pos h1,if_pos h2]at q;walk_at "ws";refine GJ ro nofun z1 .e nofun (λH2 z2=>?_);walk_at "ws";refine G0 ro nofun z2 .e nofun (λH3 z3=>?_);walk_at "ws";exact sQ ro nofun z3 .e nofun (λH4 z4=>q H4 z4)
 .rw[hm,if_neg (nt h1)]at q;exact q
 .rw[hm,if_pos h1,if_neg (nt h2)]at q;exact q
def Ej (ro:Ro K R)(hk:8<=k)(z:Sep (au R b x::cS R a sa lc c0 [] cs ws::O) H)(q:lT R b a sa lc c0 (gL x cs .fill) x cs ws O Q E (mi x cs ws)):ae tab R k 72 [v,wf b,wf a] H Q E:=by
 have ok:=nQ z .e;have sk:=(eW z .k1).1;obtain⟨h,t,l,w,s,m⟩:=x;obtain⟨⟨o1,o2⟩,⟨o3,o4⟩,⟨o5,o6⟩,o7,o8,o9⟩:=ok;dsimp only at o1 o2 o3 o4 o5 o6 o7 o8;obtain⟨s1,s2,s3,s4⟩:=sk;delta jU;walk_at "ws";refine aS (λe=>?_) (λe=>?_)
 .walk_at "ws";rw[gL,mi,if_pos e,if_pos e]at q;exact q H z
 rw[gL,mi,if_neg e,if_neg e]at q;walk_at "ws";refine af dy z .k1 rfl rfl ?_;walk_at "ws";refine mw (g:=[]) nofun (by decide) z .k1 o8 (λh2 H1 z1=>?_) (λh2=>?_)
 .have g2:=ak h2;rw[if_pos h2]at q;walk_at "ws";refine G0 ro nofun z1 .e nofun (λH3 z3=>?_);walk_at "ws";exact sQ ro nofun z3 .e nofun (λH4 z4=>q H4 z4)
 .rw[if_neg (nt h2)]at q;exact q
def CU (ro:Ro K R)(hk:8<=k)(z:Sep (au R b x::cS R a sa lc c0 [] cs ws::O) H)(q:lT R b a sa lc c0 (gL x cs .seek) x cs ws O Q E (lF x cs ws)):ae tab R k 74 [v,wf b,wf a] H Q E:=by
 have ok:=nQ z .e;have sk:=(eW z .k1).1;obtain⟨h,t,l,w,s,m⟩:=x;obtain⟨⟨o1,o2⟩,⟨o3,o4⟩,⟨o5,o6⟩,o7,o8⟩:=ok;dsimp only at o1 o2 o3 o4 o5 o6 o7;obtain⟨s1,s2,s3,s4⟩:=sk;delta kg;walk_at "ws";refine aS (λe=>?_) (λe=>?_)
 .rw[lF,if_pos e]at q;walk_at "ws";rename_i H1 z1;exact q _ z1
 rw[lF,if_neg e]at q;walk_at "ws";refine af dy z .k1 rfl rfl ?_;walk_at "ws";refine dU nofun z .k1 (λh1=>?_) (λh1=>?_)
 .have g1:=ak h1;rw[if_pos h1]at q;walk_at "ws";refine aS (λe=>?_) (λe=>?_)
  .rw[if_pos e]at q;walk_at "ws";rename_i H1 z1;exact q _ z1
  .rw[if_neg e]at q;walk_at "ws";rename_i H1 z1;refine GJ ro nofun z1 .e nofun (λH3 z3=>?_);walk_at "ws";exact sQ ro nofun z3 .e nofun (λH4 z4=>q H4 z4)
 .rw[if_neg (nt h1)]at q;exact q
def BI (ro:Ro K R)(hk:8<=k)(z:Sep (au R b x::cS R a sa lc c0 [] cs ws::O) H)(q:lT R b a sa lc c0 (gL x cs .mtch) x cs ws O Q E (gO x cs ws)):ae tab R k 76 [v,wf b,wf a] H Q E:=by
 have ok:=nQ z .e;have sk:=(eW z .k1).1;obtain⟨h,t,l,w,s,m⟩:=x;obtain⟨⟨o1,o2⟩,⟨o3,o4⟩,⟨o5,o6⟩,o7,o8⟩:=ok;dsimp only at o1 o2 o3 o4 o5 o6 o7;obtain⟨s1,s2,s3,s4⟩:=sk;delta i7;walk_at "ws";refine aS (λe=>?_) (λe=>?_)
 .rw[gO,if_pos e]at q;walk_at "ws";rename_i H1 z1;exact q _ z1
 rw[gO,if_neg e]at q;walk_at "ws";refine af dy z .k1 rfl rfl ?_;walk_at "ws";refine dU nofun z .k1 (λh1=>?_) (λh1=>?_)
 .have g1:=ak h1;rw[if_pos h1]at q;walk_at "ws";refine af dy z .k1 rfl rfl ?_;walk_at "ws";refine dU nofun z .k1 (λh2=>?_) (λh2=>?_)
  .have g2:=ak h2;rw[if_pos h2]at q;walk_at "ws";refine aS (λe=>?_) (λe=>?_)
   .rw[if_pos e]at q;walk_at "ws";rename_i H1 z1;refine GJ ro nofun z1 .e nofun (λH2 z2=>?_);walk_at "ws";refine G0 ro nofun z2 .e nofun (λH3 z3=>?_);walk_at "ws";exact sQ ro nofun z3 .e nofun (λH4 z4=>q H4 z4)
   .rw[if_neg e]at q;walk_at "ws";rename_i H1 z1;exact q _ z1
  .rw[if_neg (nt h2)]at q;exact q
 .rw[if_neg (nt h1)]at q;exact q
end
abbrev gS (x:Bx):Sp->List (Int×Int)
 | .write n=>[(x.t,x.g n)]
 |_=>[]
abbrev cN (R:Rt)(b a sa lc:Addr)(c0:List Int)(g:List (Int×Int))(x:Bx)(cs:List Int)(ws:List Str)(O:List az)(Q:VK)(E:XK):xy->Prop
 | .on x' cs'=>∀ H',Sep (au R b x'::cS R a sa lc c0 g cs' ws::O) H'->Q (wn 1) H'
 | .no d c=>∀ e H',Sep (j3 (R.cad 3) [("deed",wp d),("cell",wn c)] e false::au R b x::cS R a sa lc c0 [] cs ws::O) H'->E e H'
 | .nf n i=>∀ e H',Sep (j3 (R.cad 4) [("box",wp n.nm),("number",wn i)] e false::au R b x::cS R a sa lc c0 [] cs ws::O) H'->E e H'
def k8 {b sa lc:Addr}{cs:List Int}{n:Bn}(ro:Ro K R)(hk:4<=k)(z:Sep (au R b x::cS R a sa lc c0 [] cs ws::O) H)(q:cN R b a sa lc c0 [] x cs ws O (λ_=>Q wr) E (bF x cs n i)):ae tab R k 16 [wf b,wp n.nm,wn i] H Q E:=by
 unfold bF at q;refine Mu ro hk z (λh H' z'=>?_) (λh e H' z'=>?_)
 .rw[if_pos h]at q;exact q H' z'
 .rw[if_neg (by rw[h];exact Bool.false_ne_true)]at q;exact q e H' z'
def cN.imp {b sa lc:Addr}{g:List (Int×Int)}{cs:List Int}{Q':VK}(h:∀ H',Q (wn 1) H'->Q' (wn 1) H'):∀ {o:xy},cN R b a sa lc c0 g x cs ws O Q E o->cN R b a sa lc c0 g x cs ws O Q' E o
 | .on _ _,q=>λH' z=>h _ (q H' z)
 | .no _ _,q=>q
 | .nf _ _,q=>q
def B5 (sp:Sp)(ro:Ro K R):∃ f,tab.me.lookup (sp.cl,("step":Str))=some f/\(∀ Ψ,dflt ⟨tab,R,Ψ,true⟩ f 3=[])/\∀ {k:Nat}{de b a sa lc:Addr}{c0:List Int}{x:Bx}{cs:List Int}{ws:List Str}{O:List az}{H:Hp}{Q:VK}{E:XK},5<=k->Sep (au R b x::cS R a sa lc c0 [] cs ws::sd R de sp::O) H->cN R b a sa lc c0 (gS x sp) x cs ws (sd R de sp::O) Q E (kP x cs ws sp)->ae tab R k f [wf de,wf b,wf a] H Q E:=by
 cases sp with
 |set n i=>
  refine⟨23,rfl,λ_=>rfl,λ{k de b a sa lc c0 x cs ws O H Q E} hk z q=>wc (d:=lr) nofun rfl rfl ?_⟩;obtain⟨dx,e⟩:=tm z (by symm);right;refine af a8 z (by symm) rfl rfl ?_;left;refine cy e rfl rfl rfl ?_;left;refine cy e rfl rfl rfl ?_;left;refine bB (vs':=[_,_,_]) rfl ?_;exact k8 ro nofun z (cN.imp (Q:=Q) (λH' h=>h) q)
 |add n i=>
  refine⟨26,rfl,λ_=>rfl,λ{k de b a sa lc c0 x cs ws O H Q E} hk z q=>wc (d:=md) nofun rfl rfl ?_⟩;obtain⟨dx,e⟩:=tm z (by symm);right;refine af a8 z (by symm) rfl rfl ?_;left;refine cy e rfl rfl rfl ?_;right;refine af a8 z (by symm) rfl rfl ?_;left;refine cy e rfl rfl rfl ?_;left;refine bB (vs':=[_,_]) rfl ?_;refine Aq (n:=n) ro nofun z (by symm) ?_;left;refine cy e rfl rfl rfl ?_;right;refine bB (vs':=[_,_,_]) rfl ?_;exact k8 ro nofun z (cN.imp (Q:=Q) (λH' h=>h) q)
 |take n m=>
  refine⟨29,rfl,λ_=>rfl,λ{k de b a sa lc c0 x cs ws O H Q E} hk z q=>wc (d:=kx) nofun rfl rfl ?_⟩;obtain⟨dx,e⟩:=tm z (by symm);right;refine af a8 z (by symm) rfl rfl ?_;left;refine cy e rfl rfl rfl ?_;right;refine af a8 z (by symm) rfl rfl ?_;left;refine cy e rfl rfl rfl ?_;left;refine bB (vs':=[_,_]) rfl ?_;refine Aq (n:=m) ro nofun z (by symm) ?_;left;refine bB (vs':=[_,_,_]) rfl ?_;exact k8 ro nofun z (cN.imp (Q:=Q) (λH' h=>h) q)
 |read n=>
  refine⟨32,rfl,λ_=>rfl,λ{k de b a sa lc c0 x cs ws O H Q E} hk z q=>wc (d:=jS) nofun rfl rfl ?_⟩;obtain⟨dx,e⟩:=tm z (by symm);right;refine af a8 z (by symm) rfl rfl ?_;left;refine cy e rfl rfl rfl ?_;right;refine af dy z (by symm) rfl rfl ?_;right;refine af a8 z (by symm) rfl rfl ?_;left;refine bB (vs':=[_,_]) rfl ?_;refine Aq (n:=.h) ro nofun z (by symm) ?_;left;refine bB (vs':=[_,_]) rfl ?_;have q:cN R b a sa lc c0 [] x cs ws (sd R de (.read n)::O) Q E (if ai ws "look" x.h=true then bF x cs n (gt cs x.h) else .no "look" x.h):=q;refine dU (i:=x.h) nofun z (by symm) (λh=>?_) (λh e H' z'=>?_)
  .rw[if_pos h]at q;left;refine bB (vs':=[_,_,_]) rfl ?_;exact k8 ro nofun z (cN.imp (Q:=Q) (λH' h=>h) q)
  .rw[if_neg (by rw[h];exact Bool.false_ne_true)]at q;exact q e H' z'
 |write n=>
  refine⟨35,rfl,λ_=>rfl,λ{k de b a sa lc c0 x cs ws O H Q E} hk z q=>wc (d:=iX) nofun rfl rfl ?_⟩;obtain⟨dx,e⟩:=tm z (by symm);have q:cN R b a sa lc c0 [(x.t,x.g n)] x cs ws (sd R de (.write n)::O) Q E (if fh (wn (x.g n))=true then(if ai ws "put" x.t=true then .on x (cs.set x.t.toNat (x.g n)) else .no "put" x.t) else .nf n (x.g n)):=q;right;refine af a8 z (by symm) rfl rfl ?_;left;refine cy e rfl rfl rfl ?_;left;refine bB (vs':=[_,_]) rfl ?_;refine Aq (n:=n) ro nofun z (by symm) ?_;right;refine cD (t:="int") ro nofun rfl ?_;cases hc:fh (wn (x.g n)) with
  |false=>
   rw[if_neg (by rw[hc];exact Bool.false_ne_true)]at q;right;refine cy e rfl rfl rfl ?_;right;intro ex he;refine hU nofun (z.new he) (λd H3 hs3=>⟨rfl,?_⟩);exact fS (G:=⟨tab,R,ae tab R (k-1),true⟩) hs3 .e rfl (λH4 hs4=>q ex H4 (jX hs4))
  |true=>
   rw[if_pos hc]at q;right;refine af dy z (by symm) rfl rfl ?_;right;refine af a8 z (by symm) rfl rfl ?_;left;refine bB (vs':=[_,_]) rfl ?_;refine Aq (n:=.t) ro nofun z (by symm) ?_;left;refine bB (vs':=[_,_,_]) rfl ?_;have hc2:0<=x.g n/\x.g n<=1000000000:=by
    have hc3:(decide (0<=x.g n)&&decide (x.g n<=1000000000))=true:=hc;simpa using hc3
   refine mw (g:=[]) (i:=x.t) nofun (by decide) z .k1 hc2 (λh H' z'=>?_) (λh e H' z'=>?_)
   .rw[if_pos h]at q;exact q H' z'
   .rw[if_neg (by rw[h];exact Bool.false_ne_true)]at q;exact q e H' z'
def w_any (wd:Wd)(ro:Ro K R):∃ f,tab.me.lookup (wd.cl,("step":Str))=some f/\(∀ Ψ,dflt ⟨tab,R,Ψ,true⟩ f 3=[])/\∀ {k:Nat}{v:V}{b a sa lc:Addr}{c0:List Int}{x:Bx}{cs:List Int}{ws:List Str}{O:List az}{H:Hp}{Q:VK}{E:XK},8<=k->Sep (au R b x::cS R a sa lc c0 [] cs ws::O) H->lT R b a sa lc c0 (gL x cs wd) x cs ws O Q E (cz wd x cs ws)->ae tab R k f [v,wf b,wf a] H Q E:=by
 cases wd
 .exact⟨70,rfl,λ_=>rfl,λhk z q=>CM ro hk z q⟩
 .exact⟨72,rfl,λ_=>rfl,λhk z q=>Ej ro hk z q⟩
 .exact⟨74,rfl,λ_=>rfl,λhk z q=>CU ro hk z q⟩
 .exact⟨76,rfl,λ_=>rfl,λhk z q=>BI ro hk z q⟩
 .exact⟨78,rfl,λ_=>rfl,λhk z q=>zD ro nofun z q⟩
 .exact⟨80,rfl,λ_=>rfl,λhk z q=>El ro nofun z q⟩
abbrev gR (x:Bx)(cs:List Int):Rw->List (Int×Int)
 | .lg w=>gL x cs w
 | .sp s=>gS x s
 | .hop _ _=>[]
abbrev tI (R:Rt)(b a sa lc:Addr)(c0:List Int)(g:List (Int×Int))(x:Bx)(cs:List Int)(ws:List Str)(O:List az)(Q:VK)(E:XK):jf->Prop
 | .on r x' cs'=>∀ H',Sep (au R b x'::cS R a sa lc c0 g cs' ws::O) H'->Q (wn r) H'
 | .no d c=>∀ e H',Sep (j3 (R.cad 3) [("deed",wp d),("cell",wn c)] e false::au R b x::cS R a sa lc c0 [] cs ws::O) H'->E e H'
 | .nf n i=>∀ e H',Sep (j3 (R.cad 4) [("box",wp n.nm),("number",wn i)] e false::au R b x::cS R a sa lc c0 [] cs ws::O) H'->E e H'
def DY (r:Rw)(ro:Ro K R):∃ f,tab.me.lookup (r.cl,("step":Str))=some f/\(∀ Ψ,dflt ⟨tab,R,Ψ,true⟩ f 3=[])/\∀ {k:Nat}{de b a sa lc:Addr}{c0:List Int}{x:Bx}{cs:List Int}{ws:List Str}{O:List az}{H:Hp}{Q:VK}{E:XK},8<=k->Sep (au R b x::cS R a sa lc c0 [] cs ws::og R de r::O) H->tI R b a sa lc c0 (gR x cs r) x cs ws (og R de r::O) Q E (cZ x cs ws r)->ae tab R k f [wf de,wf b,wf a] H Q E:=by
 cases r with
 |lg w=>
  obtain⟨f,hf,hd,hs⟩:=w_any w ro;refine⟨f,hf,hd,λ{k de b a sa lc c0 x cs ws O H Q E} hk z q=>hs hk z ?_⟩;have q:tI R b a sa lc c0 (gL x cs w) x cs ws (og R de (.lg w)::O) Q E (ofM (cz w x cs ws)):=q
  revert q
  cases cz w x cs ws<;>exact λq=>q
 |sp s=>
  obtain⟨f,hf,hd,hs⟩:=B5 s ro;refine⟨f,hf,hd,λ{k de b a sa lc c0 x cs ws O H Q E} hk z q=>hs nofun z ?_⟩;have q:tI R b a sa lc c0 (gS x s) x cs ws (og R de (.sp s)::O) Q E (jL (kP x cs ws s)):=q
  revert q
  cases kP x cs ws s<;>exact λq=>q
 |hop n o=>
  refine⟨62,rfl,λ_=>rfl,λ{k de b a sa lc c0 x cs ws O H Q E} hk z q=>?_⟩;exact CP ro nofun z .k2 .e (q H z)
abbrev jf.g (g:List (Int×Int)):jf->List (Int×Int)
 | .on _ _ _=>g
 |_=>[]
def Cp {de b sa lc:Addr}{cs:List Int}(r:Rw)(ro:Ro K R)(hk:9<=k)(z:Sep (au R b x::cS R a sa lc c0 [] cs ws::og R de r::O) H)
  (q:∀ t H',Sep (Nt t (cZ x cs ws r)::au R b ((cZ x cs ws r).bx x)::cS R a sa lc c0 ((cZ x cs ws r).g (gR x cs r)) ((cZ x cs ws r).cs cs) ws::og R de r::O) H'->Q (wf t) H'):ae tab R k 39 [wf de,wf b,wf a] H Q E:=by
 obtain⟨f,hf,hd,hst⟩:=DY r ro;delta vV;right;refine af (EZ r) z .k2 (by cases r with|lg w=>rfl|sp s=>cases s<;>rfl|hop n o=>rfl) hf ?_;left;refine bB (vs':=[wf de,wf b,wf a]) (by show _::(_++dflt _ _ 3)=_;rw[hd];rfl) ?_;refine hst nofun z ?_
 revert q
 cases cZ x cs ws r with
 |on n x' cs'=>
  intro q H1 z1;right;rename_i t H3 z3;exact q t H3 z3.toT
 |no d c=>
  intro q e H1 z1;obtain⟨dx,z2⟩:=Fc z1;refine⟨3,_,_,true,z2.at,rfl,rfl,?_⟩;left;refine aV rfl ?_;right;rename_i te H3 z3 t H4 z4;have z5:=(z4.toT.pull .k1).toT;exact q t H4 (eg te (z5.sub (.cons .k1 (.cons .e (.drop (.drop .refl))))))
 |nf n i=>
  intro q e H1 z1;obtain⟨dx,z2⟩:=Fc z1;refine⟨4,_,_,false,z2.at,rfl,rfl,?_⟩;left;refine ax rfl ?_;left;refine⟨4,_,_,true,z2.at,rfl,rfl,?_⟩;left;refine aV rfl ?_;right;rename_i te H3 z3 t H4 z4;have z5:=(z4.toT.pull .k1).toT;exact q t H4 (eg te (z5.sub (.cons .k1 (.cons .e (.drop (.drop .refl))))))
abbrev aW (R:Rt)(m l s b en:Addr)(at_:Int)(ds:List V):az:=bx λdx:Addr=>[pt m (wP (R.cad 19) dx [("deeds",wf l),("store",wf s),("boxes",wf b),("at",wn at_),("entries",wf en)]),pt dx (.own m),pt l (wv ds)]
section
variable {m l s b a lc en:Addr}{at_:Int}{ds:List V}{rs:List Rw}{x:Bx}{c0 cs:List Int}{ws:List Str}
def gZ (z:Sep (aW R m l s b en at_ ds::O) H):∃ dx,Sep (pt m (wP (R.cad 19) dx [("deeds",wf l),("store",wf s),("boxes",wf b),("at",wn at_),("entries",wf en)])::pt dx (.own m)::pt l (wv ds)::O) H:=gY z
def qY (z:Sep (pt m (wP (R.cad 19) dx [("deeds",wf l),("store",wf s),("boxes",wf b),("at",wn at_),("entries",wf en)])::pt dx (.own m)::pt l (wv ds)::O) H):Sep (aW R m l s b en at_ ds::O) H:=eg dx z
def dE:Ob R (aW R m l s b en at_ ds) m 19 ["deeds","store","boxes","at","entries"]:=by
 rintro H D ⟨dx,D1,D2,_,_,_,⟨_,h⟩,_⟩;exact⟨dx,_,h,rfl⟩
abbrev gM (rs:List Rw)(at_:Int)(x:Bx)(cs:List Int)(ws:List Str):List (Int×Int):=match rs[at_.toNat]? with
 |none=>[]
 |some r=>(cZ x cs ws r).g (gR x cs r)
def DN (hk:1<=k)(z:Sep O H)(p:ah (aW R m l s b en at_ ds) O Δ)(q:Q (.bl (decide (at_=ds.length))) H):ae tab R k 41 [wf m] H Q E:=by
 delta eB;obtain⟨dx,z1⟩:=gZ (z.pull p);right;have e:dw (wn at_) (wn (ds.length:Int))=decide (at_=(ds.length:Int)):=by
  show(at_ ==(ds.length:Int))=_
  by_cases h:at_=(ds.length:Int)
  .rw[decide_eq_true h,beq_iff_eq];exact h
  .rw[decide_eq_false h];simpa using h
 rw[e];exact q
def xw (ro:Ro K R)(hk:10<=k)(h0:0<=at_)(h1:at_<=ds.length)(hd:c9 R O ds rs)(z:Sep (aW R m l s b en at_ ds::cS R a s lc c0 [] cs ws::au R b x::O) H)
  (q:∀ H',Sep (aW R m l s b en (mS rs at_ x cs ws).at_ ds::cS R a s lc c0 (gM rs at_ x cs ws) (mS rs at_ x cs ws).cs ws::au R b (mS rs at_ x cs ws).x::O) H'->Q (wp (mS rs at_ x cs ws).w) H'):ae tab R k 42 [wf m,wf a] H Q E:=by
 delta dg;unfold mS gM at q;right;refine af dE z .e rfl rfl ?_;left;refine DN nofun z .e ?_
 by_cases he:at_=ds.length
 .rw[decide_eq_true he];right;rw[getElem?_eq_none (by have:=hd.1;omega)]at q;exact q H z
 .rw[decide_eq_false he];have hlt:at_.toNat<rs.length:=by have:=hd.1;omega
  have er:rs[at_.toNat]? =some rs[at_.toNat]:=lw hlt;generalize rs[at_.toNat]=r at er;obtain⟨de,Δ,e2,p⟩:=hd.2 _ _ er;rw[er]at q;dsimp only at q;obtain⟨dx,z1⟩:=gZ z;right;refine aI (i:=at_) (by grind) (aY h0 e2) ?_;right;have z2:Sep (au R b x::cS R a s lc c0 [] cs ws::og R de r::pt m (wP (R.cad 19) dx [("deeds",wf l),("store",wf s),("boxes",wf b),("at",wn at_),("entries",wf en)])::pt dx (.own m)::pt l (wv ds)::Δ) H:=z1.sub (.cons (.t .k3) (.cons .k3 (.cons (.j2 (.t p)) .refl)));refine Cp r ro nofun z2 (λt H2 z3=>?_);clear z z1 z2
  revert q z3
  cases cZ x cs ws r with
  |on n x' cs'=>
   intro q z3;have z3:Sep (tu t [wn n,wr]::au R b x'::cS R a s lc c0 (gR x cs r) cs' ws::og R de r::pt m (wP (R.cad 19) dx [("deeds",wf l),("store",wf s),("boxes",wf b),("at",wn at_),("entries",wf en)])::pt dx (.own m)::pt l (wv ds)::Δ) H2:=z3;right;refine jv ?_;left;refine ax rfl ?_;right;rename_i H4 z4;rw[hd.1]at z4;refine q H4 (qY (dx:=dx) ?_);exact(z4.sub (Γ':=og R de r::pt m _::pt dx (.own m)::pt l (wv ds)::cS R a s lc c0 (gR x cs r) cs' ws::au R b x'::Δ) (by ac_nf)).push (.j2 (.j2 (.t p)))
  |no d c=>
   intro q z3;obtain⟨te,z4⟩:=gY z3;have z4:Sep (tu t [wr,wf te]::tu te [wp d,wn c]::au R b x::cS R a s lc c0 [] cs ws::og R de r::pt m (wP (R.cad 19) dx [("deeds",wf l),("store",wf s),("boxes",wf b),("at",wn at_),("entries",wf en)])::pt dx (.own m)::pt l (wv ds)::Δ) H2:=z4;right;refine jv ?_;left;refine aV rfl ?_;refine q H2 (qY (dx:=dx) ?_);exact(z4.sub (Γ':=og R de r::pt m _::pt dx (.own m)::pt l (wv ds)::cS R a s lc c0 [] cs ws::au R b x::Δ) (by ac_nf)).push (.j2 (.j2 (.t p)))
  |nf n i=>
   intro q z3;obtain⟨te,z4⟩:=gY z3;have z4:Sep (tu t [wr,wf te]::tu te [wp "fit",wp n.nm]::au R b x::cS R a s lc c0 [] cs ws::og R de r::pt m (wP (R.cad 19) dx [("deeds",wf l),("store",wf s),("boxes",wf b),("at",wn at_),("entries",wf en)])::pt dx (.own m)::pt l (wv ds)::Δ) H2:=z4;right;refine jv ?_;left;refine aV rfl ?_;refine q H2 (qY (dx:=dx) ?_);exact(z4.sub (Γ':=og R de r::pt m _::pt dx (.own m)::pt l (wv ds)::cS R a s lc c0 [] cs ws::au R b x::Δ) (by ac_nf)).push (.j2 (.j2 (.t p)))
end
section
variable {m l s b a lc en:Addr}{at_:Int}{ds es:List V}{rs:List Rw}{x:Bx}{c0 cs:List Int}{ws:List Str}
def xY (ro:Ro K R)(hk:3<=k)(z:Sep (pt a (wP (R.cad 18) dx [])::pt dx (.own a)::aC R s cs ws::O) H)
  (q:∀ lc H',Sep (cS R a s lc cs [] cs ws::O) H'->Q wr H'):ae tab R k 49 [wf a,wf s] H Q E:=by
 delta dz;right;rename_i H1 z1;clear z;refine af bg z1 .k2 rfl rfl ?_;left;refine i9 nofun z1 .k2 (λlb H2 z2=>?_);right;rename_i H3 z3 lc H4 z4 H5 z5;refine q lc H5 (vy (dx:=dx) (lb:=lb) (ts:=[]) ⟨rfl,Nat.zero_le _⟩ ?_);have z6:Sep (bX [] cs []::_) H5:=z5.free λ_=>⟨rfl,λi t p e=>nomatch e⟩
 have z7:Sep (pt a (wP (R.cad 18) dx [("store",wf s),("before",wf lb),("changes",wf lc)])::pt dx (.own a)::aC R s cs ws::pt lb (wv (cs.map wn))::pt lc (wv [])::bX [] cs []::O) H5:=z6.sub (by ac_nf);exact z7
structure aO where
 te:Addr
 t1:Addr
 lc:Addr
 at_:Int
 x:Bx
 c0:List Int
 g:List (Int×Int)
abbrev aq (e:aO):V:=wf e.te
abbrev ao (e:aO):az:=bx λts:List Addr=>[tu e.te [wn e.at_,wf e.t1,wf e.lc],tu e.t1 (e.x.ls.map wn),pt e.lc (wv (ts.map wf)),bX ts e.c0 e.g]
def uT {e:aO}(z:Sep (ao e::O) H):∃ ts,Sep (tu e.te [wn e.at_,wf e.t1,wf e.lc]::tu e.t1 (e.x.ls.map wn)::pt e.lc (wv (ts.map wf))::bX ts e.c0 e.g::O) H:=gY z
def xT {e:aO}(z:Sep (tu e.te [wn e.at_,wf e.t1,wf e.lc]::tu e.t1 (e.x.ls.map wn)::pt e.lc (wv (ts.map wf))::bX ts e.c0 e.g::O) H):Sep (ao e::O) H:=eg ts z
def Dr (ro:Ro K R)(hk:11<=k)(h0:0<=at_)(h1:at_<=ds.length)(le:es.length<=1000)(hd:c9 R O ds rs)(z:Sep (aW R m l s b en at_ ds::aC R s cs ws::au R b x::pt en (wv es)::O) H)
  (q1:(mS rs at_ x cs ws).w="on"->∀ te t1 lc H',Sep (ao ⟨te,t1,lc,at_,x,cs,gM rs at_ x cs ws⟩::aW R m l s b en (mS rs at_ x cs ws).at_ ds::aC R s (mS rs at_ x cs ws).cs ws::au R b (mS rs at_ x cs ws).x::pt en (wv (es++[wf te]))::O) H'->Q (wp "on") H')
  (q2:(mS rs at_ x cs ws).w≠"on"->∀ H',Sep (aW R m l s b en (mS rs at_ x cs ws).at_ ds::aC R s (mS rs at_ x cs ws).cs ws::au R b (mS rs at_ x cs ws).x::pt en (wv es)::O) H'->Q (wp (mS rs at_ x cs ws).w) H'):ae tab R k 54 [wf m] H Q E:=by
 delta fL;obtain⟨dx,z1⟩:=gZ z;right;refine af a8 z .k2 rfl rfl ?_;left;refine iq ro nofun z .k2 (λt1 H1 z2=>?_);obtain⟨dx,z3⟩:=gZ (z2.pull .k1);clear z z1;right;intro a da g1 g2 g3;have z4:Sep (aC R s cs ws::tu t1 (x.ls.map wn)::aW R m l s b en at_ ds::au R b x::pt en (wv es)::O) H1:=z2.sub (by ac_nf);clear z3;refine xY ro nofun (gk z4 g1 g2 g3) (λlc H2 z5=>⟨rfl,?_⟩);clear z2 z4;right;refine af dE z5 .k2 rfl rfl ?_;left;have z6:Sep (aW R m l s b en at_ ds::cS R a s lc cs [] cs ws::au R b x::pt en (wv es)::tu t1 (x.ls.map wn)::O) H2:=z5.sub (by ac_nf);refine xw ro nofun h0 h1 hd.more.more z6 (λH3 z7=>?_);clear z5 z6;obtain⟨da',lb,ts,hg,z8⟩:=tF (z7.pull .k1);right
 by_cases g:(mS rs at_ x cs ws).w="on"
 .have q1:=q1 g;rw[g];refine aV (by show(("on":Str) =="on")=true;simp) ?_;obtain⟨dx2,z9⟩:=gZ (z8.pull (A:=aW R m l s b en (mS rs at_ x cs ws).at_ ds) (by symm));clear z7;right;refine⟨en,_,rfl,z8.get (by symm),?_⟩;right;rename_i te H4 za;clear z8;refine⟨_,za.get (by symm),lM za (by ac_rfl) nofun (λH5 zb=>?_)⟩;right;have zc:Sep (tu te [wn at_,wf t1,wf lc]::tu t1 (x.ls.map wn)::pt lc (wv (ts.map wf))::bX ts cs (gM rs at_ x cs ws)::pt m (wP (R.cad 19) dx2 [("deeds",wf l),("store",wf s),("boxes",wf b),("at",wn (mS rs at_ x cs ws).at_),("entries",wf en)])::pt dx2 (.own m)::pt l (wv ds)::aC R s (mS rs at_ x cs ws).cs ws::au R b (mS rs at_ x cs ws).x::pt en (wv (es++[wf te]))::O) H5:=zb.toT.sub (by ac_nf);have zd:=xT (e:=⟨te,t1,lc,at_,x,cs,gM rs at_ x cs ws⟩) zc;exact q1 te t1 lc H5 ((qY (zd.sub (Γ':=pt m _::pt dx2 _::pt l _::ao ⟨te,t1,lc,at_,x,cs,gM rs at_ x cs ws⟩::aC R s (mS rs at_ x cs ws).cs ws::au R b (mS rs at_ x cs ws).x::pt en (wv (es++[wf te]))::O) (by ac_nf))).pull .k1)
 .refine ax (by show((mS rs at_ x cs ws).w =="on")=false;simpa using g) ?_;right;exact q2 g H3 (z8.sub (by ac_nf))
end
def cq {α:Type}{f:α->az}{x:α}:∀ {l:List α}{i:Nat},l[i]? =some x->∀ {O:List az},ah (f x) (l.map f++O) ((l.eraseIdx i).map f++O)
 |y::l,0,h,O=>by cases h;exact .e
 |y::l,i+1,h,O=>.t (cq (l:=l) (i:=i) h)
def cj {f:α->az}{x:α}{l:List α}:ah (f x) ((l++[x]).map f++O) (l.map f++O):=by
 rw[f8,li];exact aa .e
@[irreducible] noncomputable def t7 (I:Addr->List V->Hp->Prop) (D:Addr) (ys:List V) (rest:St) (x y w:Option V):VK:=λv H3=>∃ zs,H3 D=some (wv zs)/\zs.length<bv/\∃ ys2 x2 x3 x4,x::y::w::rest=x2::x3::x4::rest/\ys2.length=ys.length+1/\I D ys2 (upd H3 D (wv (zs++[v])))
def t7.mk {I:Addr->List V->Hp->Prop}{D:Addr}{ys:List V}{x y w:Option V}{H3:Hp}(h1:H3 D=some (wv ys))(hl:ys.length<=999)(h2:I D (ys++[v]) (upd H3 D (wv (ys++[v])))):t7 I D ys rest x y w v H3:=
 by unfold t7;exact⟨ys,h1,dD nofun,ys++[v],x,y,w,rfl,by simp,h2⟩
def qZ {te:TE}(hn:xs.length<=1000)(I:Addr->List V->Hp->Prop)(hl:∀ D ys H,I D ys H->bb R.K H a xs) (h0:∀ D,H D=none->I D [] (upd H D (wv [])))
  (hs:∀ D ys x H',xs[ys.length]? =some x->I D ys H'->∃ t v1 v2 v3,x=wf t/\bp R.K H' t [v1,v2,v3]/\te (some v1::some v2::some v3::rest) H' (t7 I D ys rest (some v1) (some v2) (some v3)))
  (hd:∀ D ys H',ys.length=xs.length->I D ys H'->Q (wf D) H'):LCt R.K 3 te (Fd R.K a) (none::none::none::rest) H Q:=by
 unfold LCt;intro D hD;refine⟨λi m σ' H'=>m=xs.length-i/\i<=xs.length/\∃ ys x0 x1 x9,σ'=x0::x1::x9::rest/\ys.length=i/\I D ys H',⟨xs.length,by simp,Nat.zero_le _,[],none,none,none,rfl,rfl,h0 D hD⟩,λi m σ' H' ⟨e,hi,ys,x0,x1,x9,e1,e2,h⟩=>?_⟩;subst e1 e2
 by_cases hlt:ys.length<xs.length
 .refine .inr ⟨⟨xs,xs[ys.length],hl D ys H' h,lw hlt⟩,λσ2 H2=>∃ ys2 x2 x3 x4,σ2=x2::x3::x4::rest/\ys2.length=ys.length+1/\I D ys2 H2,λσ2 H2 ⟨ys2,x2,x3,x4,f1,f2,f3⟩=>⟨xs.length-(ys.length+1),by omega,rfl,hlt,ys2,x2,x3,x4,f1,f2,f3⟩,λx H'' y=>?_⟩;obtain⟨e1,hy⟩:=y;subst e1;obtain⟨t,v1,v2,v3,rfl,ht,z⟩:=hs D ys x H'' (hy xs (hl D ys H'' h)) h;refine⟨t,[v1,v2,v3],rfl,ht,rfl,rfl,?_⟩;unfold t7 at z;exact⟨λ_=>z,λe=>nomatch e⟩
 .have:ys.length=xs.length:=by omega
  exact .inl ⟨⟨xs,hl D ys H' h,Nat.le_of_eq this.symm⟩,hd D ys H' this h⟩
variable {es:List aO}
section
variable {m l s b a lc en:Addr}{at_:Int}{ds:List V}{rs:List Rw}{x:Bx}{c0 cs:List Int}{ws:List Str}
def rS (ro:Ro K R)(hk:2<=k)(z:Sep (aW R m l s b en at_ ds::aC R s cs ws::au R b x::O) H)
  (q:∀ t t1 l1 H',Sep (pt t (ww [wn at_,wf t1,wf l1])::pt l1 (wv (cs.map wn))::tu t1 (x.ls.map wn)::aW R m l s b en at_ ds::aC R s cs ws::au R b x::O) H'->Q (wf t) H'):ae tab R k 44 [wf m] H Q E:=by
 delta eE;obtain⟨dx,z1⟩:=gZ z;right;refine af a8 z .k2 rfl rfl ?_;left;refine iq ro nofun z .k2 (λt1 H1 z2=>?_);obtain⟨dx,z3⟩:=gZ (z2.pull .k1);right;refine af bg z2 .k2 rfl rfl ?_;left;refine i9 nofun z2 .k2 (λl1 H2 z4=>?_);right;rename_i t H3 z5;exact q t t1 l1 H3 z5
def oy (hk:2<=k)(z:Sep (aW R m l s b en at_ ds::aC R s cs ws::O) H)
  (q:∀ l1 H',Sep (pt l1 (wv (ws.map wp))::aW R m l s b en at_ ds::aC R s cs ws::O) H'->Q (wf l1) H'):ae tab R k 45 [wf m] H Q E:=by
 delta dF;obtain⟨dx,z1⟩:=gZ z;right;refine af bg z .k1 rfl rfl ?_;left;exact f7 nofun z .k1 q
abbrev dS (e:aO):Int×Bx×List Int×List (Int×Int):=(e.at_,e.x,e.c0,e.g)
def t4 (hk:2<=k)(le:es.length<=1000)(z:Sep (aW R m l s b en at_ ds::pt en (wv (es.map aq))::(es.map ao++O)) H)
  (q:∀ D (fs:List aO) H',fs.map dS=es.map dS->Sep (pt D (wv (fs.map aq))::aW R m l s b en at_ ds::pt en (wv (es.map aq))::(fs.map ao++(es.map ao++O))) H'->Q (wf D) H'):ae tab R k 55 [wf m] H Q E:=by
 delta gE;obtain⟨dx,z1⟩:=gZ z;right;clear z1;refine qZ (xs:=es.map aq) (by rw[ci];exact le) (λD ys H=>∃ fs:List aO,ys=fs.map aq/\fs.map dS=(es.take fs.length).map dS/\Sep (pt D (wv ys)::aW R m l s b en at_ ds::pt en (wv (es.map aq))::(fs.map ao++(es.map ao++O))) H) (λD ys H ⟨fs,_,_,zz⟩=>bb.of (zz.get .k2)) (λD hD=>⟨[],rfl,rfl,z.new (o:=wv []) hD⟩) (λD ys y H hy hI=>?_) (λD ys H hl hI=>?_)
 .obtain⟨fs,rfl,e,zz⟩:=hI;rw[io,ci]at hy;obtain⟨o,eo,rfl⟩:=pc.mp hy;have hlt:=(ul.mp eo).1;obtain⟨ts,z2⟩:=uT (zz.pull (A:=ao o) (.j2 (.t (aa (cq eo)))));refine⟨o.te,wn o.at_,wf o.t1,wf o.lc,rfl,bp.of z2.atT,?_⟩;right;rename_i lc2 H3 z3 te2 H4 z4;have hc:=bX.of (z4.pull (A:=bX ts o.c0 o.g) (by symm));have ht:H4 o.t1=some (ww (o.x.ls.map wn)):=z4.kM (by symm);have z5:Sep (tu o.te [wn o.at_,wf o.t1,wf o.lc]::tu o.t1 (o.x.ls.map wn)::pt o.lc (wv (ts.map wf))::bX ts o.c0 o.g::tu te2 [wn o.at_,wf o.t1,wf lc2]::pt lc2 (wv (ts.map wf))::pt D (wv (fs.map aq))::aW R m l s b en at_ ds::pt en (wv (es.map aq))::(fs.map ao++((es.eraseIdx fs.length).map ao++O))) H4:=z4.toT.sub (by ac_nf);have z6:=Sep.push (.j2 (.j2 (.t (aa (cq eo))))) (xT z5);have z7:Sep (bX ts o.c0 o.g::tu o.t1 (o.x.ls.map wn)::_) H4:=(Sep.IB ht z6).free λ_=>hc
  have z8:=xT (e:=⟨te2,o.t1,lc2,o.at_,o.x,o.c0,o.g⟩) (z7.sub (Γ':=tu te2 _::tu o.t1 _::pt lc2 _::bX ts o.c0 o.g::pt D (wv (fs.map aq))::aW R m l s b en at_ ds::pt en (wv (es.map aq))::(fs.map ao++(es.map ao++O))) (by ac_nf));have z9:=(z8.pull (A:=pt D (wv (fs.map aq))) .k1).set (o':=wv (fs.map aq++[wf te2])) rfl;refine t7.mk (z8.get .k1) (by rw[ci];omega) ⟨fs++[⟨te2,o.t1,lc2,o.at_,o.x,o.c0,o.g⟩],by rw[f8];rfl,?_,?_⟩
  .rw[cr,ge,f8,e,take_succ,eo,f8]
   rfl
  .exact Sep.push (.j2 (.t cj)) (z9.pull .k1)
 .obtain⟨fs,rfl,e,zz⟩:=hI;rw[ci,ci]at hl;rw[hl,take_length]at e;exact q D fs H e zz
end
abbrev yI (x:Bx):Rw->List Int
 | .lg w=>nP w x
 | .sp (.read _)=>[x.h]
 |_=>[]
abbrev lL (x:Bx):Rw->List Int
 | .lg w=>lQ w x
 | .sp (.write _)=>[x.t]
 |_=>[]
def Aj {ks:List Str}(z:Sep O H)(r:aH (pt d (.dK [])) (pt d (.dK kvs)) O Γ')(e:gK [] (GO ks vs)=kvs)(q:∀ H',Sep Γ' H'->Q (wf d) H'):nI ks d vs H Q:=by
 obtain⟨Δ,p1,p2⟩:=r.bE;unfold nI;rw[e];exact⟨z.get p1,q _ (z.put r rfl)⟩
def tX {sp:Addr}{h t w s:Int}{w0:Str}{E:St->XK}{u6 u7:Option V}(r:Rw)(hk:1<=k)(ln:l≠0)(hr:∀ n,r≠.sp (.read n)/\r≠.sp (.write n)) (ht:r=.lg .turn->l≠1) (hw:r.tl[0]? =some (wp w0)) (z:Sep O H)
  (q:∀ p l1 l2 H',Sep (tu p [wf l1,wf l2]::pt l1 (wv ((yI ⟨h,t,l,w,s,m⟩ r).map wn))::pt l2 (wv ((lL ⟨h,t,l,w,s,m⟩ r).map wn))::O) H'->D.rt (wf p) H'):
  wB (cw 5 dX.body) ⟨tab,R,ae tab R (k-1),true⟩ D E [some (wf sp),some (wf d),some (wn h),some (wn t),some (wn l),some (wp w0),u6,u7] H:=by
 right;refine k6 ?_;right;refine⟨.inr (by show -(2 ^ 64)<b2i (decide (h<t))/\b2i (decide (h<t))<2 ^ 64;cases decide (h<t)<;>decide),?_⟩;right;intro d7 hd7;have z0:=z.new (o:=.dK []) hd7;generalize upd H d7 (.dK [])=H0 at z0⊢;generalize hf:(l-1)*b2i ((λi j=>decide (j<i)) t h)=fr;clear z;right;rename_i a1 H1 y1 b1 H2 y2 c1 H3 y3 a2 H4 y4 b2 H5 y5 c2 H6 y6 a3 H7 y7 b3 H8 y8 c3 H9 y9 a4 Ha ya b4 Hb yb c4 Hc yc;clear z0 y1 y2 y3 y4 y5 y6 y7 y8 y9 ya yb;refine Aj (kvs:=[(.inr "copy",wf c1),(.inr "fill",wf c2),(.inr "seek",wf c3),(.inr "match",wf c4)]) yc (by ac_rfl) rfl (λHd yd=>?_);clear yc;right;rename_i a5 He ye b5 Hf yf c5 Hg yg;refine wq (k:=.inr "shift") (kvs':=[(.inr "copy",wf c1),(.inr "fill",wf c2),(.inr "seek",wf c3),(.inr "match",wf c4),(.inr "shift",wf c5)]) yg (by ac_rfl) (re rfl) rfl (λHh yh=>?_);clear yd ye yf yg;right;rename_i a6 Hi yi b6 Hj yj c6 Hk yk;refine wq (k:=.inr "turn") (kvs':=[(.inr "copy",wf c1),(.inr "fill",wf c2),(.inr "seek",wf c3),(.inr "match",wf c4),(.inr "shift",wf c5),(.inr "turn",wf c6)]) yk (by ac_rfl) (re rfl) rfl (λHl yl=>?_);clear yh yi yj yk;right;refine⟨d7,_,rfl,yl.get (by symm),?_⟩;right;rename_i a7 Hm ym b7 Hn yn c7 Ho yo;clear yl ym yn;refine LF (k:=.inr w0) (kvs:=[(.inr "copy",wf c1),(.inr "fill",wf c2),(.inr "seek",wf c3),(.inr "match",wf c4),(.inr "shift",wf c5),(.inr "turn",wf c6)]) (by grind) ?_;have hfr:fr=if t<=h then 0 else l-1:=by
  rw[<-hf];show(l-1)*b2i (decide (h<t))=_
  by_cases g:t<=h
  .rw[if_pos g,decide_eq_false nofun];exact Int.mul_zero _
  .rw[if_neg g,decide_eq_true nofun];exact Int.mul_one _
 have fi:∀ {L P:List Int}{p l1 l2:Addr}{Δ:List az},yI ⟨h,t,l,w,s,m⟩ r=L->lL ⟨h,t,l,w,s,m⟩ r=P->Sep (pt p (ww [wf l1,wf l2])::pt l1 (wv (L.map wn))::pt l2 (wv (P.map wn))::O) Ho->D.rt (wf p) Ho:=λ{L P p l1 l2 Δ} e1 e2 zz=>q p l1 l2 Ho (by rw[e1,e2];exact zz.toT)
 cases r with
 |lg wd=>
  have L0:yI ⟨h,t,l,w,s,m⟩ (.lg wd)=Dy h t l wd:=if_neg ln;have P0:lL ⟨h,t,l,w,s,m⟩ (.lg wd)=Bl h t l wd:=if_neg ln;cases wd<;>cases hw
  .exact fi (L:=[h]) (P:=[t]) (Δ:=[]) L0 P0 (yo.sub (Γ':=pt c1 (ww [wf a1,wf b1])::pt a1 (wv [wn h])::pt b1 (wv [wn t])::O) (by ac_nf))
  .exact fi (L:=[]) (P:=[t]) (Δ:=[]) L0 P0 (yo.sub (Γ':=pt c2 (ww [wf a2,wf b2])::pt a2 (wv [])::pt b2 (wv [wn t])::O) (by ac_nf))
  .exact fi (L:=[h]) (P:=[]) (Δ:=[]) L0 P0 (yo.sub (Γ':=pt c3 (ww [wf a3,wf b3])::pt a3 (wv [wn h])::pt b3 (wv [])::O) (by ac_nf))
  .exact fi (L:=[h,t]) (P:=[]) (Δ:=[]) L0 P0 (yo.sub (Γ':=pt c4 (ww [wf a4,wf b4])::pt a4 (wv [wn h,wn t])::pt b4 (wv [])::O) (by ac_nf))
  .refine fi (L:=[h+fr]) (P:=[t+fr]) (Δ:=[]) (L0.trans ?_) (P0.trans ?_) (yo.sub (Γ':=pt c5 (ww [wf a5,wf b5])::pt a5 (wv [wn (h+fr)])::pt b5 (wv [wn (t+fr)])::O) (by ac_nf))
   .show(if t<=h then[h+0] else[h+(l-1)])=[h+fr];rw[hfr]
    split<;>rfl
   .show(if t<=h then[t+0] else[t+(l-1)])=[t+fr];rw[hfr]
    split<;>rfl
  .exact fi (L:=[h,h+l-1]) (P:=[h,h+l-1]) (Δ:=[]) (L0.trans (if_neg (ht rfl))) (P0.trans (if_neg (ht rfl))) (yo.sub (Γ':=pt c6 (ww [wf a6,wf b6])::pt a6 (wv [wn h,wn (h+l-1)])::pt b6 (wv [wn h,wn (h+l-1)])::O) (by ac_nf))
 |sp s'=>
  have z7:Sep (pt c7 (ww [wf a7,wf b7])::pt a7 (wv [])::pt b7 (wv [])::O) Ho:=yo.sub (by ac_nf);cases s' with
  |read n=>exact absurd rfl (hr n).1
  |write n=>exact absurd rfl (hr n).2
  |_=>cases hw;exact fi (L:=[]) (P:=[]) (Δ:=[]) rfl rfl z7
 |hop n o=>
  have z7:Sep (pt c7 (ww [wf a7,wf b7])::pt a7 (wv [])::pt b7 (wv [])::O) Ho:=yo.sub (by ac_nf);cases hw;exact fi (L:=[]) (P:=[]) (Δ:=[]) rfl rfl z7
def fO {sp:Addr}(r:Rw)(hk:1<=k)(z:Sep (tu sp r.tl::ar d x::O) H)
  (q:∀ t l1 l2 H',Sep (tu t [wf l1,wf l2]::pt l1 (wv ((yI x r).map wn))::pt l2 (wv ((lL x r).map wn))::tu sp r.tl::ar d x::O) H'->Q (wf t) H'):ae tab R k 106 [wf sp,wf d] H Q E:=by
 obtain⟨h,t,l,w,s,m⟩:=x;delta dX;obtain⟨w0,hw0⟩:∃ w0,r.tl[0]? =some (wp w0):=by
  cases r with
  |lg w=>exact⟨_,rfl⟩
  |sp s=>cases s<;>exact⟨_,rfl⟩
  |hop n o=>exact⟨_,rfl⟩
 have hC:((∃ n,r=.sp (.write n))/\w0="write")\/((∃ n,r=.sp (.read n))/\w0="read")\/((∀ n,r≠.sp (.read n)/\r≠.sp (.write n))/\dw (wp w0) (wp "write")=false/\dw (wp w0) (wp "read")=false/\((dw (wp w0) (wp "turn")=true/\r=.lg .turn)\/(dw (wp w0) (wp "turn")=false/\r≠.lg .turn))):=by
  cases r with
  |lg w=>
   cases w<;>cases hw0
   all_goals first|exact .inr (.inr ⟨λn=>⟨(λz=>by cases z),(λz=>by cases z)⟩,by decide+kernel,by decide+kernel,.inr ⟨by decide+kernel,(λz=>by cases z)⟩⟩)|exact .inr (.inr ⟨λn=>⟨(λz=>by cases z),(λz=>by cases z)⟩,by decide+kernel,by decide+kernel,.inl ⟨by decide+kernel,rfl⟩⟩)
  |sp s=>
   cases s<;>cases hw0
   all_goals first|exact .inr (.inl ⟨⟨_,rfl⟩,rfl⟩)|exact .inl ⟨⟨_,rfl⟩,rfl⟩|exact .inr (.inr ⟨λn=>⟨(λz=>by cases z),(λz=>by cases z)⟩,by decide+kernel,by decide+kernel,.inr ⟨by decide+kernel,(λz=>by cases z)⟩⟩)
  |hop n o=>cases hw0;exact .inr (.inr ⟨λn=>⟨(λz=>by cases z),(λz=>by cases z)⟩,by decide+kernel,by decide+kernel,.inr ⟨by decide+kernel,(λz=>by cases z)⟩⟩)
 have fi:∀ (L P:List Int){p l1 l2:Addr}{H3:Hp},yI ⟨h,t,l,w,s,m⟩ r=L->lL ⟨h,t,l,w,s,m⟩ r=P->Sep (pt p (ww [wf l1,wf l2])::pt l2 (wv (P.map wn))::pt l1 (wv (L.map wn))::tu sp r.tl::ar d ⟨h,t,l,w,s,m⟩::O) H3->Q (wf p) H3:=by
  intro L P p l1 l2 H3 e1 e2 z3;refine q p l1 l2 H3 ?_;rw[e1,e2];have z4:=z3.toT;walk_at "sp"
 walk_at "wd";refine jm z.atT (aY (i:=0) (by decide) hw0) ?_;walk_at "wd";rcases hC with⟨⟨n,rfl⟩,rfl⟩|⟨⟨n,rfl⟩,rfl⟩|⟨hr,f1,f2,f3⟩
 .repeat walk_at "sc"
  walk_at "wd";rename_i l1 H1 z1 l2 H2 z2 p H3 z3;exact fi [] [t] rfl rfl z3
 .repeat walk_at "sc"
  walk_at "wd"
  repeat walk_at "sc"
  walk_at "wd";rename_i l1 H1 z1 l2 H2 z2 p H3 z3;exact fi [h] [] rfl rfl z3
 .refine ax f1 ?_;walk_at "wd";refine ax f2 ?_;walk_at "wd";have nil:l=0\/(r=.lg .turn/\l=1)->yI ⟨h,t,l,w,s,m⟩ r=[]/\lL ⟨h,t,l,w,s,m⟩ r=[]:=λg=>by
   rcases g with g|⟨rfl,g⟩
   .cases r with
    |lg wd=>exact⟨if_pos g,if_pos g⟩
    |sp s'=>cases s' with
     |read n=>exact absurd rfl (hr n).1
     |write n=>exact absurd rfl (hr n).2
     |_=>exact⟨rfl,rfl⟩
    |hop n o=>exact⟨rfl,rfl⟩
   .have g0:¬ l=0:=by omega
    exact⟨(if_neg g0).trans (if_pos g),(if_neg g0).trans (if_pos g)⟩
  refine aS (λe=>?_) (λe=>?_)
  .walk_at "wd";rename_i l1 H1 z1 l2 H2 z2 p H3 z3;exact fi [] [] (nil (.inl e)).1 (nil (.inl e)).2 z3
  walk_at "wd";have tail:(r=.lg .turn->l≠1)->_:=λg=>tX (R:=R) (k:=k) (sp:=sp) (d:=d) (h:=h) (t:=t) (l:=l) (w:=w) (s:=s) (m:=m) (D:={ nx:=λx H'=>Q wr H',rt:=Q }) (E:=λ_=>E) (u6:=none) (u7:=none) r hk e hr g hw0 z (λp l1 l2 H' y=>q p l1 l2 H' y)
  rcases f3 with⟨f3,rfl⟩|⟨f3,nt⟩
  .refine aV f3 ?_;walk_at "wd";refine aS (λe2=>?_) (λe2=>?_)
   .walk_at "wd";rename_i l1 H1 z1 l2 H2 z2 p H3 z3;exact fi [] [] (nil (.inr ⟨rfl,e2⟩)).1 (nil (.inr ⟨rfl,e2⟩)).2 z3
   .exact tail (λ_=>e2)
  .refine ax f3 ?_;refine ax rfl ?_;exact tail (λg=>absurd g nt)
def gc {sp t l1 l2:Addr}{tl:List V}{ls ps:List Int}{E:St->XK}{u:Option V}(hk:2<=k)(z1:Sep (tu t [wf l1,wf l2]::pt l1 (wv (ls.map wn))::pt l2 (wv (ps.map wn))::tu sp tl::ar d x::pt lv (wv (ws.map wp))::O) H)
  (q0:bM ws ls ps=none->∀ H',Sep (tu sp tl::ar d x::pt lv (wv (ws.map wp))::O) H'->D.rt wr H')
  (q1:∀ dd c,bM ws ls ps=some (dd,c)->∀ t H',Sep (pt t (ww [wp dd,wn c,wn 0])::tu sp tl::ar d x::pt lv (wv (ws.map wp))::O) H'->D.rt (wf t) H'):
  wB (cw 2 ck.body) ⟨tab,R,ae tab R (k-1),true⟩ D E [some (wf sp),some (wf d),some (wf lv),some (wf l1),some (wf l2),u] H:=by
 right;refine fY (xs:=ls.map wn) (λj U H=>∃ v,U=[some (wf sp),some (wf d),some (wf lv),some (wf l1),some (wf l2),v]/\(∀ i x,i<j->ls[i]? =some x->ai ws "look" x=true)/\Sep (tu t [wf l1,wf l2]::pt l1 (wv (ls.map wn))::pt l2 (wv (ps.map wn))::tu sp tl::ar d x::pt lv (wv (ws.map wp))::O) H) ?_ ?_ ?_ ?_
 .exact⟨_,rfl,λi x hi=>absurd hi nofun,z1⟩
 .rintro j U H ⟨v,rfl,_,hs⟩;exact bb.of (by grind)
 .rintro j y U H hx ⟨v,rfl,hb,hs⟩;rw[io]at hx;obtain⟨c,hc,rfl⟩:=pc.mp hx;right;refine zE nofun hs (by symm) ?_;right;refine bY (λhm=>?_) (λhm=>?_)
  .right;refine⟨_,rfl,λi x hi hxx=>?_,hs⟩
   by_cases e:i=j
   .subst e;rw[hc]at hxx;cases hxx;exact hm
   .exact hb i x nofun hxx
  .right;rename_i p H2 z2;refine q1 "look" c ?_ p H2 ?_
   .unfold bM;rw[pK hb hc hm]
   .walk_at "sp"
 .rintro U H ⟨v,rfl,hb,hs⟩;have e0:bc ws "look" ls=none:=l9 λc hc=>by
   obtain⟨i,hi⟩:=List.mem_iff_getElem?.mp hc;have:=(ul.mp hi).1;exact hb i c (by rw[ci];exact this) hi
  right;refine fY (xs:=ps.map wn) (λj U H=>∃ v,U=[some (wf sp),some (wf d),some (wf lv),some (wf l1),some (wf l2),v]/\(∀ i x,i<j->ps[i]? =some x->ai ws "put" x=true)/\Sep (tu t [wf l1,wf l2]::pt l1 (wv (ls.map wn))::pt l2 (wv (ps.map wn))::tu sp tl::ar d x::pt lv (wv (ws.map wp))::O) H) ?_ ?_ ?_ ?_
  .exact⟨_,rfl,λi x hi=>absurd hi nofun,hs⟩
  .rintro j U H ⟨v,rfl,_,hs⟩;exact bb.of (by grind)
  .rintro j y U H hx ⟨v,rfl,hb,hs⟩;rw[io]at hx;obtain⟨c,hc,rfl⟩:=pc.mp hx;right;refine zE nofun hs (by symm) ?_;right;refine bY (λhm=>?_) (λhm=>?_)
   .right;refine⟨_,rfl,λi x hi hxx=>?_,hs⟩
    by_cases e:i=j
    .subst e;rw[hc]at hxx;cases hxx;exact hm
    .exact hb i x nofun hxx
   .right;rename_i p H2 z2;refine q1 "put" c ?_ p H2 ?_
    .unfold bM;rw[e0];exact pK hb hc hm
    .walk_at "sp"
  .rintro U H ⟨v,rfl,hb2,hs⟩;right;refine q0 ?_ H (by walk_at "sp");unfold bM;rw[e0];exact l9 λc hc=>by
    obtain⟨i,hi⟩:=List.mem_iff_getElem?.mp hc;have:=(ul.mp hi).1;exact hb2 i c (by rw[ci];exact this) hi
abbrev jf.tl:jf->List V
 | .on r _ _=>[wp "on",wn r,wn 0]
 | .no d c=>[wp d,wn c,wn 0]
 | .nf b i=>[wp "fit",wp b.nm,wn i]
def cb {sp:Addr}(r:Rw)(hk:2<=k)(hr:∀ b,r=.sp (.write b)->fh (wn (x.g b))=true) (z:Sep (tu sp r.tl::ar d x::pt lv (wv (ws.map wp))::O) H)
  (q0:bM ws (yI x r) (lL x r)=none->∀ H',Sep (tu sp r.tl::ar d x::pt lv (wv (ws.map wp))::O) H'->Q wr H')
  (q1:∀ dd c,bM ws (yI x r) (lL x r)=some (dd,c)->∀ t H',Sep (pt t (ww [wp dd,wn c,wn 0])::tu sp r.tl::ar d x::pt lv (wv (ws.map wp))::O) H'->Q (wf t) H'):ae tab R k 108 [wf sp,wf d,wf lv] H Q E:=by
 delta ck;cases r with
 |sp s=>
  cases s
  case write b=>
   have hc:(decide (0<=x.g b)&&decide (x.g b<=1000000000))=true:=hr b rfl;have hc:0<=x.g b/\x.g b<=1000000000:=by simpa using hc
   right
   repeat walk_at "sc"
   refine nz z .k1 ?_;right;refine aJ (λh0=>?_) (λh0=>absurd hc.1 h0);right;rw[fg];refine aJ (λh0=>?_) (λh0=>absurd hc.2 h0);right;refine fO (.sp (.write b)) nofun z (λt l1 l2 H1 z1=>?_);right;refine⟨t,_,rfl,.inl (bp.of z1.atT),rfl,?_⟩;exact gc hk z1 q0 q1
  all_goals
   right
   repeat walk_at "sc"
   refine fO (.sp _) nofun z (λt l1 l2 H1 z1=>?_);right;refine⟨t,_,rfl,.inl (bp.of z1.atT),rfl,?_⟩;exact gc hk z1 q0 q1
 |lg w=>
  cases w
  all_goals
   right
   repeat walk_at "sc"
   refine fO (.lg _) nofun z (λt l1 l2 H1 z1=>?_);right;refine⟨t,_,rfl,.inl (bp.of z1.atT),rfl,?_⟩;exact gc hk z1 q0 q1
 |hop n o=>
  right
  repeat walk_at "sc"
  refine fO (.hop n o) nofun z (λt l1 l2 H1 z1=>?_);right;refine⟨t,_,rfl,.inl (bp.of z1.atT),rfl,?_⟩;exact gc hk z1 q0 q1
def w6 {sp:Addr}{b:Bn}(hk:2<=k)(hb:fh (wn (x.g b))=false)(z:Sep (tu sp (Rw.tl (.sp (.write b)))::ar d x::pt lv (wv (ws.map wp))::O) H)
  (q:∀ t H',Sep (pt t (ww [wp "fit",wp b.nm,wn (x.g b)])::tu sp (Rw.tl (.sp (.write b)))::ar d x::pt lv (wv (ws.map wp))::O) H'->Q (wf t) H'):ae tab R k 108 [wf sp,wf d,wf lv] H Q E:=by
 delta ck;have hc:(decide (0<=x.g b)&&decide (x.g b<=1000000000))=false:=hb;have hc:0<=x.g b->¬ x.g b<=1000000000:=by simpa using hc
 right
 repeat walk_at "sc"
 refine nz z .k1 ?_;right;refine aJ (λh0=>?_) (λh0=>?_)
 .right;rw[fg];refine aJ (λh1=>absurd h1 (hc h0)) (λh1=>?_);right;refine nz z .k1 ?_;right;rename_i t H1 z1;exact q t H1 z1
 .right;refine nz z .k1 ?_;right;rename_i t H1 z1;exact q t H1 z1
def BA {sp p:Addr}{cs:List Int}(r:Rw)(hk:3<=k)(hr:r.ok)(hx:0<=x.l)(hl:cs.length=ws.length)(z:Sep (tu sp r.tl::ar d x::pt p (wv (cs.map wn))::pt lv (wv (ws.map wp))::O) H)
  (q:∀ td H',Sep (pt td (ww (cZ x cs ws r).tl)::tu sp r.tl::ar d ((cZ x cs ws r).bx x)::pt p (wv (((cZ x cs ws r).cs cs).map wn))::pt lv (wv (ws.map wp))::O) H'->Q (wf td) H'):ae tab R k 109 [wf sp,wf d,wf p,wf lv] H Q E:=by
 delta ky;have z0:Sep (tu sp r.tl::ar d x::pt lv (wv (ws.map wp))::pt p (wv (cs.map wn))::O) H:=z.sub (by ac_nf);right;cases r with
 |lg w=>
  refine cb (.lg w) nofun (λb e=>by cases e) z0 (λhb H1 z1=>?_) (λdd c hb t H1 z1=>?_)
  .right;refine bQ ?_;left;refine ax rfl ?_;right;rename_i tp H2 z2;refine gh (bp.of z2.at) rfl rfl ?_;left;refine ax (by cases w<;>decide+kernel) ?_;right;refine ax (by cases w<;>decide+kernel) ?_;right;refine ax (by cases w<;>decide+kernel) ?_;right;refine Dt w (O:=pt lv (wv (ws.map wp))::tu sp (Rw.tl (.lg w))::O) nofun hx hl hb (z2.sub (by ac_nf)) ?_;have q:∀ td H',Sep (pt td (ww (ofM (cz w x cs ws)).tl)::tu sp (Rw.tl (.lg w))::ar d ((ofM (cz w x cs ws)).bx x)::pt p (wv (((ofM (cz w x cs ws)).cs cs).map wn))::pt lv (wv (ws.map wp))::O) H'->Q (wf td) H':=q
   revert q
   cases cz w x cs ws with
   |no dd c=>exact λ_=>True.intro
   |on n x' cs'=>
    intro q H3 z3;right;rename_i t H4 z4;exact q t H4 (z4.sub (.cons .e (.cons .k3 .refl)))
  .have e:cZ x cs ws (.lg w)=.no dd c:=congrArg ofM (FD hx hb);rw[e]at q;right;refine bQ ?_;left;refine aV rfl ?_;left;exact q t H1 (z1.sub (.cons .e (.cons .e (.cons .e (.cons .k1 .refl)))))
 |hop n o=>
  refine cb (.hop n o) nofun (λb e=>by cases e) z0 (λhb H1 z1=>?_) (λdd c hb t H1 z1=>by cases hb);right;refine bQ ?_;left;refine ax rfl ?_;right;rename_i tp H2 z2;refine gh (bp.of z2.at) rfl rfl ?_;left;refine ax (by decide+kernel) ?_;right
  repeat walk_at "sc"
  have hn:∀ c:Bool,sG n (b2i c):=λc=>by cases c<;>(unfold sG b2i;have:=hr.1;omega)
  refine jv ?_;cases o with
  |none=>
   left;refine aV rfl ?_;right;refine k6 ?_;left;refine⟨hn true,?_⟩;right;rename_i t H4 z4;have e:1+n*b2i true=1+n:=by rw[show b2i true=1 from rfl,Int.mul_one]
   rw[e]at z4;exact q t H4 (z4.sub (.cons .e (.cons .k1 (.cons .k1 (.cons .k2 (.cons .k1 (.drop .refl)))))))
  |some i=>
   left;refine ax rfl ?_;right;refine nz (n:=.m) z2 (by symm) ?_;right;refine k6 ?_;left;refine⟨hn _,?_⟩;right;rename_i t H4 z4;have e:1+n*b2i (dw (oV (some i)) (wn (x.g Bn.m)))=if i=x.m then 1+n else 1:=by
    show 1+n*b2i (i ==x.m)=_
    by_cases h:i=x.m
    .rw[if_pos h,show(i ==x.m)=true by simpa using h,show b2i true=1 from rfl,Int.mul_one]
    .rw[if_neg h,show(i ==x.m)=false by simpa using h,show b2i false=0 from rfl,Int.mul_zero,Int.add_zero]
   rw[e]at z4;exact q t H4 (z4.sub (.cons .e (.cons .k1 (.cons .k1 (.cons .k2 (.cons .k1 (.drop .refl)))))))
 |sp s=>
  have q:∀ td H',Sep (pt td (ww (jL (kP x cs ws s)).tl)::tu sp s.tl::ar d ((jL (kP x cs ws s)).bx x)::pt p (wv (((jL (kP x cs ws s)).cs cs).map wn))::pt lv (wv (ws.map wp))::O) H'->Q (wf td) H':=q;cases s with
  |set n i=>
   have q:∀ td H',Sep (pt td (ww (jL (bF x cs n i)).tl)::tu sp (Sp.tl (.set n i))::ar d ((jL (bF x cs n i)).bx x)::pt p (wv (((jL (bF x cs n i)).cs cs).map wn))::pt lv (wv (ws.map wp))::O) H'->Q (wf td) H':=q;refine cb (.sp (.set n i)) nofun (λb e=>by cases e) z0 (λhb H1 z1=>?_) (λdd c hb t H1 z1=>by cases hb);right;refine bQ ?_;left;refine ax rfl ?_;right;rename_i tp H2 z2;refine gh (bp.of z2.at) rfl rfl ?_;left;refine aV (by decide+kernel) ?_;right
   repeat walk_at "sc"
   refine kR (n:=n) (i:=i) nofun ?_;cases hf:bq n (i) with
   |false=>
    rw[bF,if_neg (by rw[hf];exact Bool.false_ne_true)]at q;right;rename_i td H3 z3;exact q td H3 (z3.sub (.cons .e (.cons .k1 (.cons .k1 (.cons .k2 (.cons .k1 (.drop .refl)))))))
   |true=>
    rw[bF,if_pos hf]at q;right;refine BC (n:=n) (i:=i) z2 (by ac_rfl) (λH3 z3=>?_);right;rename_i td H4 z4;exact q td H4 (z4.sub (.cons .e (.cons .k1 (.cons .k1 (.cons .k2 (.cons .k1 (.drop .refl)))))))
  |add n i=>
   have q:∀ td H',Sep (pt td (ww (jL (bF x cs n (x.g n+i))).tl)::tu sp (Sp.tl (.add n i))::ar d ((jL (bF x cs n (x.g n+i))).bx x)::pt p (wv (((jL (bF x cs n (x.g n+i))).cs cs).map wn))::pt lv (wv (ws.map wp))::O) H'->Q (wf td) H':=q;refine cb (.sp (.add n i)) nofun (λb e=>by cases e) z0 (λhb H1 z1=>?_) (λdd c hb t H1 z1=>by cases hb);right;refine bQ ?_;left;refine ax rfl ?_;right;rename_i tp H2 z2;refine gh (bp.of z2.at) rfl rfl ?_;left;refine aV (by decide+kernel) ?_;right
   repeat walk_at "sc"
   refine nz (n:=n) z2 (by symm) ?_;right
   repeat walk_at "sc"
   refine kR (n:=n) (i:=x.g n+i) nofun ?_;cases hf:bq n (x.g n+i) with
   |false=>
    rw[bF,if_neg (by rw[hf];exact Bool.false_ne_true)]at q;right;rename_i td H3 z3;exact q td H3 (z3.sub (.cons .e (.cons .k1 (.cons .k1 (.cons .k2 (.cons .k1 (.drop .refl)))))))
   |true=>
    rw[bF,if_pos hf]at q;right;refine BC (n:=n) (i:=x.g n+i) z2 (by ac_rfl) (λH3 z3=>?_);right;rename_i td H4 z4;exact q td H4 (z4.sub (.cons .e (.cons .k1 (.cons .k1 (.cons .k2 (.cons .k1 (.drop .refl)))))))
  |take n m=>
   have q:∀ td H',Sep (pt td (ww (jL (bF x cs n (x.g m))).tl)::tu sp (Sp.tl (.take n m))::ar d ((jL (bF x cs n (x.g m))).bx x)::pt p (wv (((jL (bF x cs n (x.g m))).cs cs).map wn))::pt lv (wv (ws.map wp))::O) H'->Q (wf td) H':=q;refine cb (.sp (.take n m)) nofun (λb e=>by cases e) z0 (λhb H1 z1=>?_) (λdd c hb t H1 z1=>by cases hb);right;refine bQ ?_;left;refine ax rfl ?_;right;rename_i tp H2 z2;refine gh (bp.of z2.at) rfl rfl ?_;left;refine aV (by decide+kernel) ?_;right
   repeat walk_at "sc"
   refine nz (n:=m) z2 (by symm) ?_;right
   repeat walk_at "sc"
   refine kR (n:=n) (i:=x.g m) nofun ?_;cases hf:bq n (x.g m) with
   |false=>
    rw[bF,if_neg (by rw[hf];exact Bool.false_ne_true)]at q;right;rename_i td H3 z3;exact q td H3 (z3.sub (.cons .e (.cons .k1 (.cons .k1 (.cons .k2 (.cons .k1 (.drop .refl)))))))
   |true=>
    rw[bF,if_pos hf]at q;right;refine BC (n:=n) (i:=x.g m) z2 (by ac_rfl) (λH3 z3=>?_);right;rename_i td H4 z4;exact q td H4 (z4.sub (.cons .e (.cons .k1 (.cons .k1 (.cons .k2 (.cons .k1 (.drop .refl)))))))
  |read n=>
   have q:∀ td H',Sep (pt td (ww (jL (if ai ws "look" x.h=true then bF x cs n (gt cs x.h) else .no "look" x.h)).tl)::tu sp (Sp.tl (.read n))::ar d ((jL (if ai ws "look" x.h=true then bF x cs n (gt cs x.h) else .no "look" x.h)).bx x)::pt p (wv (((jL (if ai ws "look" x.h=true then bF x cs n (gt cs x.h) else .no "look" x.h)).cs cs).map wn))::pt lv (wv (ws.map wp))::O) H'->Q (wf td) H':=q;refine cb (.sp (.read n)) nofun (λb e=>by cases e) z0 (λhb H1 z1=>?_) (λdd c hb t H1 z1=>?_)
   .obtain⟨hm,_⟩:=aK (ic hb).1;have hm:ai ws "look" x.h=true:=hm;have g:=ak hm;rw[if_pos hm]at q;right;refine bQ ?_;left;refine ax rfl ?_;right;rename_i tp H2 z2;refine gh (bp.of z2.at) rfl rfl ?_;left;refine aV (by decide+kernel) ?_;right
    repeat walk_at "sc"
    refine nz (n:=.h) z2 (by symm) ?_;right;refine aI (i:=x.h) (by grind) (dG g.1 nofun) ?_;right
    repeat walk_at "sc"
    refine kR (n:=n) (i:=gt cs x.h) nofun ?_;cases hf:bq n (gt cs x.h) with
    |false=>
     rw[bF,if_neg (by rw[hf];exact Bool.false_ne_true)]at q;right;rename_i td H3 z3;exact q td H3 (z3.sub (.cons .e (.cons .k1 (.cons .k1 (.cons .k2 (.cons .k1 (.drop .refl)))))))
    |true=>
     rw[bF,if_pos hf]at q;right;refine BC (n:=n) (i:=gt cs x.h) z2 (by ac_rfl) (λH3 z3=>?_);right;rename_i td H4 z4;exact q td H4 (z4.sub (.cons .e (.cons .k1 (.cons .k1 (.cons .k2 (.cons .k1 (.drop .refl)))))))
   .have hm:ai ws "look" x.h=false/\dd="look"/\c=x.h:=by
     cases e:ai ws "look" x.h with
     |true=>rw[show bM ws (yI x (.sp (.read n))) (lL x (.sp (.read n)))=none by show bM ws [x.h] []=none;unfold bM bc;rw[if_pos e];rfl]at hb;cases hb
     |false=>
      rw[show bM ws (yI x (.sp (.read n))) (lL x (.sp (.read n)))=some (("look":Str),x.h) by show bM ws [x.h] []=_;unfold bM bc;rw[if_neg (nt e)]]at hb;cases hb;exact⟨rfl,rfl,rfl⟩
    obtain⟨e1,rfl,rfl⟩:=hm;rw[if_neg (nt e1)]at q;right;refine bQ ?_;left;refine aV rfl ?_;left;exact q t H1 (z1.sub (.cons .e (.cons .e (.cons .e (.cons .k1 .refl)))))
  |write n=>
   have q:∀ td H',Sep (pt td (ww (jL (if fh (wn (x.g n))=true then(if ai ws "put" x.t=true then .on x (cs.set x.t.toNat (x.g n)) else .no "put" x.t) else .nf n (x.g n))).tl)::tu sp (Sp.tl (.write n))::ar d ((jL (if fh (wn (x.g n))=true then(if ai ws "put" x.t=true then .on x (cs.set x.t.toNat (x.g n)) else .no "put" x.t) else .nf n (x.g n))).bx x)::pt p (wv (((jL (if fh (wn (x.g n))=true then(if ai ws "put" x.t=true then .on x (cs.set x.t.toNat (x.g n)) else .no "put" x.t) else .nf n (x.g n))).cs cs).map wn))::pt lv (wv (ws.map wp))::O) H'->Q (wf td) H':=q;cases hc:fh (wn (x.g n)) with
   |false=>
    rw[if_neg (nt hc)]at q;refine w6 nofun hc z0 (λt H1 z1=>?_);right;refine bQ ?_;left;refine aV rfl ?_;left;exact q t H1 (z1.sub (.cons .e (.cons .e (.cons .e (.cons .k1 .refl)))))
   |true=>
    rw[if_pos hc]at q;refine cb (.sp (.write n)) nofun (λb e=>by cases e;exact hc) z0 (λhb H1 z1=>?_) (λdd c hb t H1 z1=>?_)
    .have hm:ai ws "put" x.t=true:=(aK (ic hb).2).1;have g:=ak hm;rw[if_pos hm]at q;right;refine bQ ?_;left;refine ax rfl ?_;right;rename_i tp H2 z2;refine gh (bp.of z2.at) rfl rfl ?_;left;refine ax (by decide+kernel) ?_;right
     repeat walk_at "sc"
     refine nz (n:=n) z2 (by symm) ?_;right;refine nz (n:=.t) z2 (by symm) ?_;left;refine cI (i:=x.t) z2 (by ac_rfl) (bT g.1 (by rw[ci];omega)) cL (λH3 z3=>?_);right;rename_i td H4 z4;exact q td H4 (z4.sub (.cons .e (.cons .k1 (.cons .k1 (.cons .k2 (.cons .k1 (.drop .refl)))))))
    .have hm:ai ws "put" x.t=false/\dd="put"/\c=x.t:=by
      cases e:ai ws "put" x.t with
      |true=>rw[show bM ws (yI x (.sp (.write n))) (lL x (.sp (.write n)))=none by show bM ws [] [x.t]=none;unfold bM bc;dsimp only;unfold bc;rw[if_pos e]]at hb;cases hb
      |false=>
       rw[show bM ws (yI x (.sp (.write n))) (lL x (.sp (.write n)))=some (("put":Str),x.t) by show bM ws [] [x.t]=_;unfold bM bc;dsimp only;unfold bc;rw[if_neg (nt e)]]at hb;cases hb;exact⟨rfl,rfl,rfl⟩
     obtain⟨e1,rfl,rfl⟩:=hm;rw[if_neg (nt e1)]at q;right;refine bQ ?_;left;refine aV rfl ?_;left;exact q t H1 (z1.sub (.cons .e (.cons .e (.cons .e (.cons .k1 .refl)))))
abbrev fq (g:List (Int×Int))(pu:List Int)(n:Nat)(o:Out):Prop:=∀ r x' cs',o=.on r x' cs'->(∀ c ∈ pu,0<=c/\c<(n:Int))/\g=pu.map (λc=>(c,gt cs' c))
section
variable {g:List (Int×Int)}{pu:List Int}{cs:List Int}{n:Nat}{r i j v w:Int}{x:Bx}{ws:List Str}
def e9 {d:Str}:fq g pu n (.no d c):=λ_ _ _ h=>nomatch h
def cO:fq [] [] n (.on r x cs):=λ_ _ _ _=>⟨λc hc=>(nomatch hc),rfl⟩
def ug (h0:0<=j)(h1:j<cs.length):gt (cs.set j.toNat v) j=v:=EC (getElem?_set_self nofun)
def Du (h0:0<=i)(h1:0<=j)(hn:i≠j):gt (cs.set j.toNat v) i=gt cs i:=by
 unfold gt;rw[getElem?_set_ne nofun]
def la (h:0<=j/\j<(n:Int))(hl:cs.length=n):fq [(j,v)] [j] n (.on r x (cs.set j.toNat v)):=λr' x' cs' e=>by
 cases e;refine⟨λc hc=>by rw[mem_singleton.mp hc];exact h,?_⟩;show[(j,v)]=[(j,gt (cs.set j.toNat v) j)];rw[ug h.1 nofun]
def Gj (hi:0<=i/\i<(n:Int))(h:0<=j/\j<(n:Int))(hn:i≠j)(hl:cs.length=n):fq [(i,v),(j,w)] [i,j] n (.on r x ((cs.set i.toNat v).set j.toNat w)):=λr' x' cs' e=>by
 cases e;refine⟨λc hc=>?_,?_⟩
 .rcases nw.mp hc with rfl|hc
  .exact hi
  .rw[mem_singleton.mp hc];exact h
 .show[(i,v),(j,w)]=[(i,gt ((cs.set i.toNat v).set j.toNat w) i),(j,gt ((cs.set i.toNat v).set j.toNat w) j)];rw[ug h.1 (by rw[length_set];omega),Du hi.1 h.1 hn,ug hi.1 nofun]
def JW (wd:Wd)(hl:cs.length=ws.length)(hx:0<=x.l):fq (gL x cs wd) (lQ wd x) ws.length (cz wd x cs ws):=by
 by_cases e:x.l=0
 .have p0:lQ wd x=[]:=if_pos e;rw[p0];cases wd
  .show fq (if x.l=0 then _ else _) _ _ (if x.l=0 then _ else _);rw[if_pos e,if_pos e];exact cO
  .show fq (if x.l=0 then _ else _) _ _ (if x.l=0 then _ else _);rw[if_pos e,if_pos e];exact cO
  .show fq [] _ _ (if x.l=0 then _ else _);rw[if_pos e];exact cO
  .show fq [] _ _ (if x.l=0 then _ else _);rw[if_pos e];exact cO
  .show fq (if x.l=0 then _ else _) _ _ (if x.l=0 then _ else _);rw[if_pos e,if_pos e];exact cO
  .show fq (if x.l=0 then _ else _) _ _ (if x.l=0 then _ else _);rw[if_pos e,if_pos e];exact cO
 .have p0:lQ wd x=Bl x.h x.t x.l wd:=if_neg e;rw[p0];cases wd
  .show fq (if x.l=0 then _ else _) [x.t] _ (if x.l=0 then _ else hm cs ws x.h x.t _);rw[if_neg e,if_neg e];exact nW (λ_ _ _=>e9) (λa b=>la (ak b) hl)
  .show fq (if x.l=0 then _ else _) [x.t] _ (if x.l=0 then _ else if _ then _ else _);rw[if_neg e,if_neg e];exact aB (λb=>la (ak b) hl) (λ_=>e9)
  .show fq [] [] _ (if x.l=0 then _ else if _ then(if _ then _ else _) else _);rw[if_neg e];exact aB (λ_=>aB (λ_=>cO) (λ_=>cO)) (λ_=>e9)
  .show fq [] [] _ (if x.l=0 then _ else if _ then(if _ then(if _ then _ else _) else _) else _);rw[if_neg e];exact aB (λ_=>aB (λ_=>aB (λ_=>cO) (λ_=>cO)) (λ_=>e9)) (λ_=>e9)
  .show fq (if x.l=0 then _ else if x.t<=x.h then _ else _) (if x.t<=x.h then[x.t+0] else[x.t+(x.l-1)]) _ (if x.l=0 then _ else if x.t<=x.h then _ else _);rw[if_neg e,if_neg e]
   by_cases c:x.t<=x.h
   .rw[if_pos c,if_pos c,if_pos c,Int.add_zero];exact nW (λ_ _ _=>e9) (λa b=>la (ak b) hl)
   .rw[if_neg c,if_neg c,if_neg c,<-Int.add_sub_assoc];exact nW (λ_ _ _=>e9) (λa b=>la (ak b) hl)
  .show fq (if x.l=0 then _ else if x.l=1 then _ else _) (if x.l=1 then _ else _) _ (if x.l=0 then _ else if x.l=1 then _ else xm cs ws x.h (x.h+x.l-1) _);rw[if_neg e,if_neg e]
   by_cases c:x.l=1
   .rw[if_pos c,if_pos c,if_pos c];exact cO
   .rw[if_neg c,if_neg c,if_neg c];exact aB (λa=>aB (λb=>aB (λp1=>aB (λp2=>Gj (ak p1) (ak p2) nofun hl) (λ_=>e9)) (λ_=>e9)) (λ_=>e9)) (λ_=>e9)
def EM {r:Rw}{n:Int}(hl:cs.length=ws.length)(hx:0<=x.l)(ho:cZ x cs ws r=.on n x' cs'):(∀ c ∈ lL x r,0<=c/\c<(ws.length:Int))/\gR x cs r=(lL x r).map (λc=>(c,gt cs' c)):=by
 cases r with
 |lg wd=>
  have ho:ofM (cz wd x cs ws)=.on n x' cs':=ho;refine JW wd hl hx n x' cs' ?_;cases h:cz wd x cs ws with
  |on a b c=>rw[h]at ho;cases ho;rfl
  |no a b=>rw[h]at ho;cases ho
 |sp s=>
  cases s with
  |write b=>
   have ho:jL (if fh (wn (x.g b))=true then(if ai ws "put" x.t=true then .on x (cs.set x.t.toNat (x.g b)) else .no "put" x.t) else .nf b (x.g b))=.on n x' cs':=ho
   by_cases c1:fh (wn (x.g b))=true
   .rw[if_pos c1]at ho
    by_cases c2:ai ws "put" x.t=true
    .rw[if_pos c2]at ho;have key:=la (r:=1) (x:=x) (v:=x.g b) (ak c2) hl 1 x _ rfl;cases ho;exact key
    .rw[if_neg c2]at ho;cases ho
   .rw[if_neg c1]at ho;cases ho
  |_=>exact⟨λc hc=>(nomatch hc),rfl⟩
 |hop a o=>exact⟨λc hc=>(nomatch hc),rfl⟩
end
abbrev ft (O:List az)(ss:List V)(rs:List Rw):Prop:=ss.length=rs.length/\(∀ r ∈ rs,r.ok)/\∀ (i:Nat) (r:Rw),rs[i]? =some r->∃ t Δ,ss[i]? =some (wf t)/\ah (tu t r.tl) O Δ
def ft.more (h:ft O ss rs):ft (A::O) ss rs:=⟨h.1,h.2.1,λi r e=>by
 obtain⟨a,Δ,e2,p⟩:=h.2.2 i r e;exact⟨a,_,e2,.t p⟩⟩
def zU {cs:List Int}{d:Str}(h:cz wd x cs ws=.no d c):d="look"\/d="put":=by
 revert h
 exact zK (P:=λo=>o=.no d c->_) (λ_ _ e=>by cases e) (λ_ _ h e=>by cases e;exact h) (λ_ _ _ _ _ e=>by cases e)
def xb {cs:List Int}{r:Rw}{d:Str}(h:cZ x cs ws r=.no d c):d="look"\/d="put":=by
 have gv:∀ {b:Bn}{i:Int},jL (bF x cs b i)≠.no d c:=λ{b i} e=>by
  unfold bF at e
  split at e<;>cases e
 cases r with
 |lg w=>
  have h:ofM (cz w x cs ws)=.no d c:=h;cases e:cz w x cs ws with
  |on r x' cs'=>rw[e]at h;cases h
  |no d' c'=>rw[e]at h;cases h;exact zU e
 |hop n o=>cases h
 |sp s=>
  cases s with
  |set n i=>exact absurd h gv
  |add n i=>exact absurd h gv
  |take n m=>exact absurd h gv
  |read n=>
   have h:jL (if ai ws "look" x.h=true then bF x cs n (gt cs x.h) else .no "look" x.h)=.no d c:=h
   split at h
   .exact absurd h gv
   .cases h;exact .inl rfl
  |write n=>
   have h:jL (if fh (wn (x.g n))=true then(if ai ws "put" x.t=true then .on x (cs.set x.t.toNat (x.g n)) else .no "put" x.t) else .nf n (x.g n))=.no d c:=h
   split at h
   .split at h
    .cases h
    .cases h;exact .inr rfl
   .cases h
def hV {cs:List Int}{b:Bn}(hx:0<=x.l)(h:bF x cs b i=.on x' cs'):0<=x'.l/\cs'.length=cs.length:=by
 unfold bF at h
 by_cases e:bq b i=true
 .rw[if_pos e]at h;cases h;refine⟨?_,rfl⟩;cases b
  .exact hx
  .exact hx
  .have e:(decide (0<=i)&&decide (i<=1000000000))=true:=e;have e:0<=i/\i<=1000000000:=by simpa using e
   exact e.1
  .exact hx
  .exact hx
  .exact hx
 .rw[if_neg e]at h;cases h
def xN {cs:List Int}{s:Sp}(hx:0<=x.l)(h:kP x cs ws s=.on x' cs'):0<=x'.l/\cs'.length=cs.length:=by
 cases s with
 |set b i=>exact hV hx h
 |add b i=>exact hV hx h
 |take b c=>exact hV hx h
 |read b=>
  have h:(if ai ws "look" x.h=true then bF x cs b (gt cs x.h) else .no "look" x.h)=.on x' cs':=h
  by_cases e:ai ws "look" x.h=true
  .rw[if_pos e]at h;exact hV hx h
  .rw[if_neg e]at h;cases h
 |write b=>
  have h:(if fh (wn (x.g b))=true then(if ai ws "put" x.t=true then .on x (cs.set x.t.toNat (x.g b)) else .no "put" x.t) else .nf b (x.g b))=xy.on x' cs':=h
  by_cases e:fh (wn (x.g b))=true
  .rw[if_pos e]at h
   by_cases e2:ai ws "put" x.t=true
   .rw[if_pos e2]at h;cases h;exact⟨hx,length_set ..⟩
   .rw[if_neg e2]at h;cases h
  .rw[if_neg e]at h;cases h
def xZ {cs:List Int}{r:Rw}{n:Int}(hx:0<=x.l)(h:cZ x cs ws r=.on n x' cs'):0<=x'.l/\cs'.length=cs.length:=by
 cases r with
 |lg w=>
  have h:ofM (cz w x cs ws)=.on n x' cs':=h;cases e:cz w x cs ws with
  |no d c=>rw[e]at h;cases h
  |on r y ys=>
   rw[e]at h;cases h;exact zT hx e
 |hop m o=>cases h;exact⟨hx,rfl⟩
 |sp s=>
  have h:jL (kP x cs ws s)=.on n x' cs':=h;cases e:kP x cs ws s with
  |on y ys=>rw[e]at h;cases h;exact xN hx e
  |no d c=>rw[e]at h;cases h
  |nf b i=>rw[e]at h;cases h
def Cz {cs:List Int}(hx:0<=x.l):0<=(mS rs at_ x cs ws).x.l/\(mS rs at_ x cs ws).cs.length=cs.length:=by
 unfold mS;cases e:rs[at_.toNat]? with
 |none=>exact⟨hx,rfl⟩
 |some r=>
  dsimp only;cases ho:cZ x cs ws r with
  |no d c=>exact⟨hx,rfl⟩
  |nf b i=>exact⟨hx,rfl⟩
  |on n x' cs'=>exact xZ hx ho
noncomputable abbrev bD (ow SP d p lv lg:Addr)(at_:Int)(x:Bx)(cs:List Int)(ws:List Str)(lgs:List V)(O:List az):List az:=pt ow (wv [wf SP,wn at_,wf d,wf p,wf lv,wf lg])::ar d x::pt p (wv (cs.map wn))::pt lv (wv (ws.map wp))::pt lg (wv lgs)::O
def yW {r:Rw}:(lL x r).length<=2:=by
 cases r with
 |lg w=>
  show(lQ w x).length<=2;unfold lQ
  split
  .exact Nat.zero_le _
  .unfold Bl;cases w<;>dsimp only<;>(try split)<;>simp
 |sp s=>cases s<;>simp[lL]
 |hop a o=>simp[lL]
section
variable {ow SP d p lv lg:Addr}{at_:Int}{ss lgs:List V}{rs:List Rw}{x:Bx}{cs:List Int}{ws:List Str}
def Er (hk:4<=k)(h0:0<=at_)(h1:at_<=ss.length)(hx:0<=x.l)(hl:cs.length=ws.length)(l60:ws.length<=60)(le:lgs.length<=1000)(hs:ft O ss rs)(z:Sep (bD ow SP d p lv lg at_ x cs ws lgs (pt SP (wv ss)::O)) H)
  (q1:(mS rs at_ x cs ws).w="on"->∀ te t1 lc H',Sep (ao ⟨te,t1,lc,at_,x,cs,gM rs at_ x cs ws⟩::bD ow SP d p lv lg (mS rs at_ x cs ws).at_ (mS rs at_ x cs ws).x (mS rs at_ x cs ws).cs ws (lgs++[wf te]) (pt SP (wv ss)::O)) H'->Q (wp "on") H')
  (q2:(mS rs at_ x cs ws).w≠"on"->∀ H',Sep (bD ow SP d p lv lg (mS rs at_ x cs ws).at_ (mS rs at_ x cs ws).x (mS rs at_ x cs ws).cs ws lgs (pt SP (wv ss)::O)) H'->Q (wp (mS rs at_ x cs ws).w) H'):ae tab R k 115 [wf ow] H Q E:=by
 delta oh;have hl1:=hs.1;unfold mS gM at q1;unfold mS at q2;right;refine⟨ow,_,rfl,.inr (bb.of z.at),rfl,?_⟩;right;refine aS (λhe=>?_) (λhe=>?_)
 .rw[getElem?_eq_none nofun]at q2;right;exact q2 (show("end":Str)≠"on" by decide+kernel) H z
 .have hlt:at_.toNat<rs.length:=by omega
  have er:rs[at_.toNat]? =some rs[at_.toNat]:=lw hlt;have ok:=hs.2.1 _ (getElem_mem hlt);generalize rs[at_.toNat]=r at er ok;obtain⟨t,Δ,e2,pt_⟩:=hs.2.2 _ _ er;rw[er]at q1 q2;dsimp only at q1 q2;right;refine tf z (z.get .k1) (λt1 H1 g z1=>?_);rw[rV]at z1;have z1:Sep (pt t1 (ww (x.ls.map wn))::bD ow SP d p lv lg at_ x cs ws lgs (pt SP (wv ss)::O)) H1:=z1;clear z;right;refine aI (i:=at_) (by grind) (aY h0 e2) ?_;right;refine fO (O:=pt p (wv (cs.map wn))::pt lv (wv (ws.map wp))::pt t1 (ww (x.ls.map wn))::pt ow (wv [wf SP,wn at_,wf d,wf p,wf lv,wf lg])::pt lg (wv lgs)::pt SP (wv ss)::O) r nofun (Sep.IB (z1.kM (.j2 (.j2 (.j2 (.t pt_))))) (z1.sub (by ac_nf))) (λt2 l1 l2 H2 z2=>?_);clear z1;right;rename_i old H3 z3;clear z2;refine aI (i:=at_) (by grind) (aY h0 e2) ?_;right;refine BA (O:=pt old (wv (cs.map wn))::pt l2 (wv ((lL x r).map wn))::pt t1 (ww (x.ls.map wn))::pt ow (wv [wf SP,wn at_,wf d,wf p,wf lv,wf lg])::pt lg (wv lgs)::pt SP (wv ss)::O) r nofun ok hx hl (z3.sub (by ac_nf)) (λtd H4 z4=>?_);clear z3;generalize ho:cZ x cs ws r=o at q1 q2 z4;cases o with
  |on n x' cs'=>
   obtain⟨g1,g2⟩:=EM hl hx ho;have z4:Sep (pt td (ww [wp "on",wn n,wn 0])::tu t r.tl::ar d x'::pt p (wv (cs'.map wn))::pt lv (wv (ws.map wp))::pt old (wv (cs.map wn))::pt l2 (wv ((lL x r).map wn))::pt t1 (ww (x.ls.map wn))::pt ow (wv [wf SP,wn at_,wf d,wf p,wf lv,wf lg])::pt lg (wv lgs)::pt SP (wv ss)::O) H4:=z4;have q1:=q1 rfl;have q1:∀ te t1 lc H',Sep (ao ⟨te,t1,lc,at_,x,cs,gR x cs r⟩::bD ow SP d p lv lg (min (at_+n) rs.length) x' cs' ws (lgs++[wf te]) (pt SP (wv ss)::O)) H'->Q (wp "on") H':=q1;rw[g2]at q1;have l24:(lL x r).length<=2:=yW;have hc':cs'.length=cs.length:=by
    have h:=(Cz (rs:=[r]) (at_:=0) (cs:=cs) (ws:=ws) hx).2;have e:mS [r] 0 x cs ws=⟨"on",min (0+n) [r].length,x',cs'⟩:=by
     show(match cZ x cs ws r with
      | .on n x' cs'=>(⟨"on",min (0+n) [r].length,x',cs'⟩:MU)
      |_=>⟨"stop",0,x,cs⟩)=_
     rw[ho]
    rw[e]at h;exact h
   generalize lL x r=pu at g1 g2 q1 z4 l24;right
   repeat walk_at "sc"
   refine⟨lg,_,rfl,z4.get (by symm),?_⟩;right;refine pS (xs:=pu.map wn) (by rw[ci];omega) (λD ys H=>∃ ts:List Addr,ys=ts.map wf/\Sep (pt D (wv ys)::bX ts cs ((pu.take ts.length).map (λc=>(c,gt cs' c)))::pt td (ww [wp "on",wn n,wn 0])::ar d x'::pt p (wv (cs'.map wn))::pt lv (wv (ws.map wp))::pt old (wv (cs.map wn))::pt l2 (wv (pu.map wn))::pt t1 (ww (x.ls.map wn))::pt ow (wv [wf SP,wn at_,wf d,wf p,wf lv,wf lg])::pt lg (wv lgs)::pt SP (wv ss)::O) H) (λD ys H ⟨ts,_,zz⟩=>bb.of (zz.get (by symm))) (λD hD=>⟨[],rfl,?_⟩) (λD ys y H hy hI=>?_) (λD ys H hys hI=>?_)
   .have z5:=z4.new (o:=wv []) hD;have z6:Sep (bX [] cs []::_) _:=z5.free λ_=>⟨rfl,λi t p e=>nomatch e⟩
    have z7:Sep (pt D (wv [])::bX [] cs []::pt td (ww [wp "on",wn n,wn 0])::ar d x'::pt p (wv (cs'.map wn))::pt lv (wv (ws.map wp))::pt old (wv (cs.map wn))::pt l2 (wv (pu.map wn))::pt t1 (ww (x.ls.map wn))::pt ow (wv [wf SP,wn at_,wf d,wf p,wf lv,wf lg])::pt lg (wv lgs)::pt SP (wv ss)::O) _:=z6.sub (by ac_nf);exact z7
   .obtain⟨ts,rfl,zz⟩:=hI;rw[io,ci]at hy;obtain⟨c,ec,rfl⟩:=pc.mp hy;have hin:=g1 c (db ec);have hlt:=(ul.mp ec).1;right;refine aI (zz.get (by symm)) (dG hin.1 nofun) ?_;right;refine aI (zz.get (by symm)) (dG hin.1 nofun) ?_;right;rename_i t' H6 z7;have z8:=bX.snoc (p:=(c,gt cs' c)) (z7.pull (A:=bX ts cs _) .k2) z7.at;have z9:=(z8.pull (A:=pt D (wv (ts.map wf))) (by symm)).set (o':=wv (ts.map wf++[wf t'])) rfl;refine rz.mk (z7.get .k1) (by rw[ci];omega) ⟨ts++[t'],by rw[f8];rfl,?_⟩;have et:(pu.take (ts++[t']).length).map (λc=>(c,gt cs' c))=(pu.take ts.length).map (λc=>(c,gt cs' c))++[(c,gt cs' c)]:=by
     rw[cr,ge,take_succ,ec,f8]
     rfl
    rw[et];exact z9.sub (by ac_nf)
   .obtain⟨ts,rfl,zz⟩:=hI;rw[ci,ci]at hys;rw[hys,take_length]at zz;clear z4;right;rename_i te H6 z7;refine⟨_,z7.get (by symm),lM z7 (by ac_rfl) nofun (λH7 z8=>?_)⟩;right;rename_i H8 z9;have za:=(z9.toT.pull (A:=pt t1 (ww (x.ls.map wn))) (by symm)).toT;have zb:Sep (tu te [wn at_,wf t1,wf D]::tu t1 (x.ls.map wn)::pt D (wv (ts.map wf))::bX ts cs (pu.map (λc=>(c,gt cs' c)))::pt ow (wv [wf SP,wn (min (at_+n) ss.length),wf d,wf p,wf lv,wf lg])::ar d x'::pt p (wv (cs'.map wn))::pt lv (wv (ws.map wp))::pt lg (wv (lgs++[wf te]))::pt SP (wv ss)::O) H8:=za.sub (by ac_nf);rw[hl1]at zb;exact q1 te t1 D H8 (xT (e:=⟨te,t1,D,at_,x,cs,pu.map (λc=>(c,gt cs' c))⟩) zb)
  |no dd c=>
   have z4:Sep (pt td (ww [wp dd,wn c,wn 0])::tu t r.tl::ar d x::pt p (wv (cs.map wn))::pt lv (wv (ws.map wp))::pt old (wv (cs.map wn))::pt l2 (wv ((lL x r).map wn))::pt t1 (ww (x.ls.map wn))::pt ow (wv [wf SP,wn at_,wf d,wf p,wf lv,wf lg])::pt lg (wv lgs)::pt SP (wv ss)::O) H4:=z4;right;refine ax (by rcases xb ho with rfl|rfl<;>decide+kernel) ?_;right;exact q2 (show("stop":Str)≠"on" by decide+kernel) H4 (z4.sub (by ac_nf))
  |nf b i=>
   have z4:Sep (pt td (ww [wp "fit",wp b.nm,wn i])::tu t r.tl::ar d x::pt p (wv (cs.map wn))::pt lv (wv (ws.map wp))::pt old (wv (cs.map wn))::pt l2 (wv ((lL x r).map wn))::pt t1 (ww (x.ls.map wn))::pt ow (wv [wf SP,wn at_,wf d,wf p,wf lv,wf lg])::pt lg (wv lgs)::pt SP (wv ss)::O) H4:=z4;right
   repeat walk_at "sc"
   exact q2 (show("stop":Str)≠"on" by decide+kernel) H4 (z4.sub (by ac_nf))
end
def c9.app {L:List az}(h:c9 R O ds rs):c9 R (L++O) ds rs:=⟨h.1,λi r e=>by
 obtain⟨a,Δ,e2,p⟩:=h.2 i r e;exact⟨a,_,e2,aa p⟩⟩
def Sep.mv:∀ {L P Δ O:List az}{H:Hp},Sep (P++(Δ++(L++O))) H->Sep (P++(L++(Δ++O))) H
 | [],_,_,_,_,z=>z
 |A::L,P,Δ,O,H,z=>(Sep.mv (L:=L) (P:=A::P) (Δ:=Δ) (O:=O) (z.pull (aa (aa .e)))).push (aa .e)
abbrev aF (p:Addr×Rw):V:=wf p.1
abbrev pV (R:Rt)(p:Addr×Rw):az:=og R p.1 p.2
abbrev mQ (p:Addr×Rw):az:=tu p.1 p.2.tl
def rh {S:List (Addr×Rw)}(h:S.map (·.2)=rs)(ok:∀ r ∈ rs,Rw.ok r):ft (S.reverse.map mQ++O) (S.map aF) rs:=by
 refine⟨by rw[<-h];simp,ok,λi r e=>?_⟩;subst h;rw[io]at e;obtain⟨⟨a,r'⟩,g,rfl⟩:=pc.mp e;obtain⟨Δ,hp⟩:=lR (f:=mQ) (x:=(a,r')) (l:=S.reverse) (by have:=db g;simpa using this);exact⟨a,_,by rw[io,g];rfl,hp O⟩
def qa {S P:List (Addr×Rw)}(h:∀ p ∈ P,p ∈ S):c9 R (S.reverse.map (pV R)++O) (P.map aF) (P.map (·.2)):=by
 refine⟨by simp,λi r e=>?_⟩;rw[io]at e;obtain⟨⟨a,r'⟩,g,rfl⟩:=pc.mp e;obtain⟨Δ,hp⟩:=lR (f:=pV R) (x:=(a,r')) (l:=S.reverse) (by simpa using h _ (db g));exact⟨a,_,by rw[io,g];rfl,hp O⟩
def zy {m l s b:Addr}{cs:List Int}(ro:Ro K R)(hk:6<=k)(n0:1<=ds.length)(n1:ds.length<=24)(h0:0<=at_)(h1:at_<=ds.length){Δl Δs Δb:List az}(pl:ah (pt l (wv ds)) O Δl)(ps:ah (aC R s cs ws) O Δs)(pb:ah (au R b x) O Δb)(hd:xX R O ds)
  (z:Sep (pt m (wP (R.cad 19) dx [])::pt dx (.own m)::O) H) (q:∀ l2 s2 b2 H',Sep (pt m (wP (R.cad 19) dx [("deeds",wf l2),("store",wf s2),("boxes",wf b2),("at",wn at_)])::pt dx (.own m)::pt l2 (wv ds)::aC R s2 cs ws::au R b2 x::O) H'->Q wr H'):ae tab R k 40 [wf m,wf l,wf s,wf b,wn at_] H Q E:=by
 delta cQ;right;refine qD ro nofun n0 n1 z (.j2 pl) (λv hv=>by
  obtain⟨a,r,Δ',e,hp⟩:=hd v hv;exact⟨a,r,_,e,.t (.t hp)⟩) (λH1 z1=>?_)
 right;refine fX (z1.get (.j2 pl)) ?_;right;refine mV nofun h0 h1 ?_;right;refine wm z1 (z1.get (.j2 pl)) (λl2 H2 z2=>?_);right;rename_i H3 z3;refine af bg z3 (.j2 (.t ps)) rfl rfl ?_;left;refine xK ro nofun z3 (.j2 (.t ps)) (λs2 H4 z4=>?_);right;rename_i H5 z5;refine af a8 z5 (.j2 (.j2 pb)) rfl rfl ?_;left;refine yy ro nofun z5 (.j2 (.j2 pb)) (λb2 H6 z6=>?_);right;rename_i H7 z7 H8 z8;exact q l2 s2 b2 H8 (z8.sub (by ac_nf))
def mN {m l s b:Addr}{cs:List Int}(ro:Ro K R)(hk:7<=k)(n0:1<=ds.length)(n1:ds.length<=24)(h0:0<=at_)(h1:at_<=ds.length){Δl Δs Δb:List az}(pl:ah (pt l (wv ds)) O Δl)(ps:ah (aC R s cs ws) O Δs)(pb:ah (au R b x) O Δb)(hd:xX R O ds)
  (z:Sep (pt m (wP (R.cad 19) dx [])::pt dx (.own m)::O) H) (q:∀ l2 s2 b2 en H',Sep (aW R m l2 s2 b2 en at_ ds::aC R s2 cs ws::au R b2 x::pt en (wv [])::O) H'->Q wr H'):ae tab R k 53 [wf m,wf l,wf s,wf b,wn at_] H Q E:=by
 delta cP;right;refine zy ro nofun n0 n1 h0 h1 pl ps pb hd z (λl2 s2 b2 H1 z1=>?_);clear z;right;rename_i en H2 z2 H3 z3;exact q l2 s2 b2 en H3 (qY (dx:=dx) (z3.sub (by ac_nf)))
section
variable {h p lv:Addr}{m M:Int}{cs:List Int}{ws:List Str}
def AY {E:St->XK}{u1 u2 u5 u6 u7:Option V}(hk:4<=k)(hm:m<=1099508000000)(c0:1<=cs.length)(c60:cs.length<=60)(hc:cA cs)(hl:cs.length=ws.length)(hw:cE ws)(z:Sep (hand h m::pt p (wv (cs.map wn))::pt lv (wv (ws.map wp))::O) H)
  (q:∀ ow SP d lg at_ x (S:List (Addr×Rw)) H',Bx.ok x->1<=S.length->S.length<=24->(∀ r ∈ S.map (·.2),Rw.ok r)->0<=at_->at_<=(S.length:Int)->Sep (bD ow SP d p lv lg at_ x cs ws [] (pt SP (wv (S.map aF))::hand h (m+500)::(S.reverse.map mQ++O))) H'->D.rt (wf ow) H'):
  wB (cw 3 eA.body) ⟨tab,R,ae tab R (k-1),true⟩ D E [some (wf h),u1,u2,some (wf p),some (wf lv),u5,u6,u7] H:=by
 right;refine G4 nofun z nofun c0 c60 hc (λd x H1 hx z1=>?_);clear z;walk_at "gd";rename_i l1 H2 z2 r1 H3 r10 r11 z3;obtain⟨v,e2,N,rfl,N0,N1⟩:=hW (xs:=[wn 3,wn 8,wn 24]) (P:=inR 1 24) (r:=r1) r10 (by simpa using r11) (K5 (.mk (by decide) (by decide)) (.mk (by decide) (by decide)) (.mk (by decide) (by decide)));refine aI (by grind) e2 ?_;right;refine ux nofun z3 nofun nofun nofun (λr2 H4 r20 r21 z4=>?_);clear z1 z2 z3;have z5:Sep (hand h (m+40)::ar d x::pt p (wv (cs.map wn))::pt lv (wv (ws.map wp))::O) H4:=(aw (n:=m+40) z4 nofun).sub (by ac_nf);clear z4;right;refine vb (n:=(1+r2).toNat) nofun (λD' ys H=>∃ S:List (Addr×Rw),ys=S.map aF/\(∀ r ∈ S.map (·.2),Rw.ok r)/\Sep (pt D' (wv ys)::hand h (m+40+10*((ys.length:Nat):Int))::ar d x::pt p (wv (cs.map wn))::pt lv (wv (ws.map wp))::(S.reverse.map mQ++O)) H) (λD hD=>⟨[],rfl,λp hp=>absurd hp (by simp),(aw ((z5.new (o:=wv []) hD).pull .k1) (by simp)).pull .k1⟩) (λD' ys H hl2 hI=>?_) (λSP ys H hl2 hI=>?_)
 .obtain⟨S,e,ok,hs⟩:=hI;right;rw[ci];refine DK nofun (hs.pull .k1) nofun nofun nofun (λt r H7 o hs7=>?_);have hs8:=(hs7.pull (A:=pt D' (wv ys)) (by symm)).set (o':=wv (ys++[wf t])) rfl;refine rz.mk (hs7.get (by symm)) nofun ⟨S++[(t,r)],by rw[e];simp[aF],λp hp=>?_,?_⟩
  .rw[f8]at hp;rcases mem_append.mp hp with hp|hp
   .exact ok p hp
   .rw[mem_singleton.mp hp];exact o
  .rw[List.reverse_append,f8,li];show Sep (pt D' _::hand h _::ar d x::pt p (wv (cs.map wn))::pt lv (wv (ws.map wp))::tu t r.tl::(S.reverse.map mQ++O)) _;exact(aw (n:=m+40+10*(((ys++[wf t]).length:Nat):Int)) (hs8.pull (A:=hand h _) (by symm)) (by rw[cr,ge];omega)).sub (by ac_nf)
 obtain⟨S,rfl,okS,hs6⟩:=hI;rw[ci]at hl2 hs6;have z7:Sep (hand h (m+300)::pt SP (wv (S.map aF))::ar d x::pt p (wv (cs.map wn))::pt lv (wv (ws.map wp))::(S.reverse.map mQ++O)) H:=aw (hs6.pull .k1) nofun;clear z5 hs6;walk_at "gd";rename_i r3 H8 r30 r31 z8 r4 H9 r40 r41 z9 lg Ha za ow Hb zb;rw[ci]at r41;have hat:0<=r3 / 3*r4/\r3 / 3*r4<=(S.length:Int):=by
  rcases(by omega:r3 / 3=0\/r3 / 3=1) with e|e<;>rw[e]<;>omega
 refine q ow SP d lg _ x S Hb hx nofun nofun okS hat.1 hat.2 ?_;have zc:Sep (hand h (m+500)::pt ow (wv [wf SP,wn (r3 / 3*r4),wf d,wf p,wf lv,wf lg])::ar d x::pt p (wv (cs.map wn))::pt lv (wv (ws.map wp))::pt lg (wv [])::pt SP (wv (S.map aF))::(S.reverse.map mQ++O)) Hb:=(aw (n:=m+500) (zb.pull (A:=hand h _) (by symm)) nofun).sub (by ac_nf);exact zc.sub (by ac_nf)
end
def FZ {M:Int}{sh:Bool}(hk:5<=k)(hm:m<=1099500000000)(M0:1<=M)(M1:M<=60)(z:Sep (hand h m::O) H)
  (q:∀ ow SP d p lv lg at_ x cs ws (S:List (Addr×Rw)) H',1<=cs.length->cs.length<=60->cA cs->cs.length=ws.length->cE ws->Bx.ok x->1<=S.length->S.length<=24->(∀ r ∈ S.map (·.2),Rw.ok r)->0<=at_->at_<=(S.length:Int)->Sep (bD ow SP d p lv lg at_ x cs ws [] (pt SP (wv (S.map aF))::hand h (m+1000)::(S.reverse.map mQ++O))) H'->Q (wf ow) H'):ae tab R k 114 [wf h,wn M,.bl sh] H Q E:=by
 delta eA;right;refine C3 nofun z nofun M0 M1 (λp cs H1 c0 c1 hc z1=>?_);clear z;right;rename_i l1 H2 z2 lv H3 z3;have fin:∀ {D:Ends}{lv:Addr}{ws:List Str}{H:Hp}{u5 u6 u7:Option V},D.rt=Q->cs.length=ws.length->cE ws->Sep (hand h (m+400)::pt p (wv (cs.map wn))::pt lv (wv (ws.map wp))::O) H->wB (cw 3 eA.body) ⟨tab,R,ae tab R (k-1),true⟩ D (λ_=>E) [some (wf h),some (wn M),some (.bl sh),some (wf p),some (wf lv),u5,u6,u7] H:=λ{D lv ws H u5 u6 u7} hD hl hw zz=>AY nofun nofun c0 nofun hc hl hw zz (λow SP d lg at_ x S H' hx s0 s1 okS a0 a1 y=>by
  rw[hD];exact q ow SP d p lv lg at_ x cs ws S H' c0 nofun hc hl hw hx s0 s1 okS a0 a1 ((aw (n:=m+1000) (y.pull (A:=hand h _) (by symm)) nofun).sub (by ac_nf)))
 cases sh with
 |true=>
  refine aV rfl ?_;right;rw[ci];refine xO nofun nofun c0 nofun (z3.pull (A:=hand h (m+300)) (by symm)) (λlv2 ws H4 el hw z4=>?_);left;exact fin rfl el.symm hw ((aw (n:=m+400) (z4.pull .k1) nofun).sub (by ac_nf))
 |false=>
  refine ax rfl ?_;have e:(tz (((cs.map wn).length:Int)).toNat [wp "open"]).flatten=(tz cs.length ("open":Str)).map wp:=by
   rw[ci,sK,map_replicate]
   induction cs.length with
   |zero=>rfl
   |succ n ih=>rw[replicate_succ,replicate_succ,flatten_cons,ih];rfl
  rw[e]at z3;exact fin (lv:=lv) (ws:=tz cs.length "open") rfl (by rw[length_replicate]) (λw hw=>by rw[List.eq_of_mem_replicate hw];decide+kernel) ((aw (n:=m+400) (z3.pull (A:=hand h _) (by symm)) nofun).sub (by ac_nf))
def AO {te:TE}{SP:Addr}(ro:Ro K R)(hk:5<=k)(n1:rs.length<=24)(hs:ft O ss rs)(hp:ah (pt SP (wv ss)) O Δ)(z:Sep O H)(hte:∀ {v:V}{H:Hp}{Q:VK},ae tab R k 103 [v] H Q (λ_ _=>False)->te (some v::rest) H Q)
  (q:∀ DE (L:List (Addr×Rw)) H',L.map (·.2)=rs->Sep (pt DE (wv (L.map aF))::(L.reverse.map (pV R)++O)) H'->Q (wf DE) H'):yD te (Fd R.K SP) (none::rest) H Q:=by
 have hsl:=hs.1;refine pS (xs:=ss) nofun (λD ys H=>∃ L:List (Addr×Rw),ys=L.map aF/\L.map (·.2)=rs.take ys.length/\Sep (pt D (wv ys)::(L.reverse.map (pV R)++O)) H) (λD ys H hI=>?_) (λD hD=>⟨[],rfl,rfl,z.new (o:=wv []) hD⟩) (λD ys y H hy hI=>?_) (λDE ys H hl2 hI=>?_)
 .obtain⟨L,_,_,hs⟩:=hI;exact bb.of (hs.get (.t (aa hp)))
 .obtain⟨L,e,e2,z6⟩:=hI;have hyl:=(ul.mp hy).1;have er:rs[ys.length]? =some (rs[ys.length]'nofun):=lw _;generalize rs[ys.length]'nofun=r at er;obtain⟨t,Δ,e3,pp⟩:=hs.2.2 _ _ er;rw[hy]at e3;cases e3;refine hte (y0 r ro nofun (hs.2.1 _ (db er)) (Sep.IB (z6.kM (.t (aa pp))) z6) (λde H7 z7=>?_));have z8:=(z7.pull (A:=pt D (wv ys)) (by symm)).set (o':=wv (ys++[wf de])) rfl;refine rz.mk (z7.get (by symm)) nofun ⟨L++[(de,r)],by rw[e];simp[aF],?_,?_⟩
  .rw[f8,e2,cr,ge,take_succ,er]
   rfl
  .rw[List.reverse_append,f8,li];show Sep (pt D _::og R de r::(L.reverse.map (pV R)++O)) _;exact z8.sub (by ac_nf)
 obtain⟨L,rfl,e2,z6⟩:=hI;refine q DE L H ?_ z6;rw[e2,hl2,hs.1];exact List.take_of_length_le (sw _)
section
variable {ow SP d p lv lg:Addr}{at_:Int}{x:Bx}{cs:List Int}{ws:List Str}{S:List (Addr×Rw)}
end
def Sep.cut {A B:List az}(z:Sep (A++(B++O)) H):Sep (A++O) H:=by
 induction B with
 |nil=>exact z
 |cons X B ih=>exact ih (z.pull (aa .e)).drop
def qt {b:Addr}{ys:List V}(ha:H a=some (ww xs))(hb:H b=some (ww ys))(hl:xs.length=ys.length)(h:∀ (j:Nat) (x y:V),xs[j]? =some x->ys[j]? =some y->dR K H (n+1) x y true):dR K H (n+2) (wf a) (wf b) true:=by
 have z:=dR.tt (K:=K) (e:=λ_=>true) (bp.of ha) (bp.of hb) h
 rwa [show((List.range (min xs.length ys.length)).all (λ_=>true)&&xs.length ==ys.length)=true by simp[hl]]at z
def pJ {b:Addr}{ys:List V}(ha:H a=some (wv xs))(hb:H b=some (wv ys))(hl:xs.length=ys.length)(h:∀ (j:Nat) (x y:V),xs[j]? =some x->ys[j]? =some y->dR K H (n+1) x y true):dR K H (n+2) (wf a) (wf b) true:=by
 have z:=dR.ll (K:=K) (e:=λ_=>true) (bb.of ha) (bb.of hb) hl h
 first
  |rwa [show((List.range xs.length).all (λ_=>true))=true by simp]at z
  |simpa[hl] using z
def qb (h:aZ v=true):dR K H n v v true:=by
 have z:=dR.flat (K:=K) (H:=H) (n:=n) h h
 rwa [iY h]at z
def pQ {b:Addr}(ha:H a=some (ww (ns.map wn)))(hb:H b=some (ww (ns.map wn))):dR K H (n+2) (wf a) (wf b) true:=qt ha hb rfl λj x y e1 e2=>by
 rw[e1]at e2;cases e2;rw[io]at e1;obtain⟨i,_,rfl⟩:=pc.mp e1;exact qb rfl
def Iq {t t2 t1 t3 l1 l3:Addr}{cs:List Int}(h1:H t=some (ww [wn at_,wf t1,wf l1]))(h2:H t2=some (ww [wn at_,wf t3,wf l3]))(ha:H t1=some (ww (ns.map wn)))(hb:H t3=some (ww (ns.map wn)))(hc:H l1=some (wv (cs.map wn)))(hd:H l3=some (wv (cs.map wn))):dR R.K H 3 (wf t) (wf t2) true:=by
 refine qt h1 h2 rfl λj x y f1 f2=>?_
 match j,f1,f2 with
 |0,f1,f2=>cases f1;cases f2;exact qb rfl
 |1,f1,f2=>cases f1;cases f2;exact pQ ha hb
 |2,f1,f2=>cases f1;cases f2;exact pB hc hd
variable {e:aO}
def Ks {f:aO}(h:dS e=dS f)(z:Sep (ao e::ao f::O) H):dR K H 4 (aq e) (aq f) true:=by
 obtain⟨ts,z1⟩:=uT z;obtain⟨us,z2⟩:=uT (z1.pull (A:=ao f) (.t .k3));have c1:=bX.of (z1.pull (A:=bX ts e.c0 e.g) .k3);have c2:=bX.of (z2.pull (A:=bX us f.c0 f.g) .k3);have e1:e.at_=f.at_:=congrArg (·.1) h;have e2:e.x=f.x:=congrArg (·.2.1) h;have e3:e.c0=f.c0:=congrArg (·.2.2.1) h;have e4:e.g=f.g:=congrArg (·.2.2.2) h;have t1:=z1.atT;have t2:=z2.atT;have x1:=z1.kM (t:=e.t1) .k1;have x2:=z2.kM (t:=f.t1) .k1;have l1:=z1.get (a:=e.lc) .k2;have l2:=z2.get (a:=f.lc) .k2;rw[e1]at t1;rw[e2]at x1;rw[e3,e4]at c1;refine qt t1 t2 rfl λj x y f1 f2=>?_
 match j,f1,f2 with
 |0,f1,f2=>cases f1;cases f2;exact qb rfl
 |1,f1,f2=>cases f1;cases f2;exact pQ x1 x2
 |2,f1,f2=>
  cases f1;cases f2;refine pJ l1 l2 (by rw[ci,ci,c1.1,c2.1]) λi v w g1 g2=>?_
  rw[io]at g1 g2;obtain⟨a,ha,rfl⟩:=pc.mp g1;obtain⟨b,hb,rfl⟩:=pc.mp g2;have hlt:=(ul.mp ha).1;have hg:f.g[i]? =some (f.g[i]'(by rw[<-c1.1];exact hlt)):=lw _;have q1:=c1.2 i a _ ha hg;have q2:=c2.2 i b _ hb hg;exact pQ (ns:=[_,_,_]) q1 q2
def GB {D lg:Addr}{hs fs:List aO}(e:hs.map dS=fs.map dS)(hD:H D=some (wv (hs.map aq)))(hL:H lg=some (wv (fs.map aq)))(hp:∀ {i:Nat}{a b:aO},hs[i]? =some a->fs[i]? =some b->∃ Δ,Sep (ao a::ao b::Δ) H):dR K H 5 (wf D) (wf lg) true:=by
 have hl:hs.length=fs.length:=by
  have:=congrArg List.length e
  rwa [ci,ci]at this
 refine pJ hD hL (by rw[ci,ci,hl]) λj x y f1 f2=>?_
 rw[io]at f1 f2;obtain⟨a,ha,rfl⟩:=pc.mp f1;obtain⟨b,hb,rfl⟩:=pc.mp f2;obtain⟨Δ,z⟩:=hp ha hb;refine Ks ?_ z;have h2:(hs.map dS)[j]? =(fs.map dS)[j]? :=by rw[e]
 rw[io,io,ha,hb]at h2;exact Option.some.inj h2
section
variable {m l s b en ow SP d p lv lg:Addr}{at_:Int}{ds ss lgs:List V}{x:Bx}{cs:List Int}{ws:List Str}{es fs:List aO}
def AK (hk:1<=k)(z:Sep (bD ow SP d p lv lg at_ x cs ws lgs O) H)(q:∀ t t1 l1 H',Sep (pt t (ww [wn at_,wf t1,wf l1])::pt l1 (wv (cs.map wn))::pt t1 (ww (x.ls.map wn))::bD ow SP d p lv lg at_ x cs ws lgs O) H'->Q (wf t) H'):ae tab R k 117 [wf ow] H Q E:=by
 delta iV;right;refine tf z (z.get .k1) (λt1 H1 g z1=>?_);rw[rV]at z1;have z1:Sep (pt t1 (ww (x.ls.map wn))::bD ow SP d p lv lg at_ x cs ws lgs O) H1:=z1;clear z;right;rename_i l1 H2 z2 t H3 z3;exact q t t1 l1 H3 z3
noncomputable abbrev qH (R:Rt)(m l s b en ow SP d p lv lg:Addr)(at_:Int)(ds ss:List V)(x:Bx)(cs:List Int)(ws:List Str)(es fs:List aO)(O:List az):List az:=aW R m l s b en at_ ds::aC R s cs ws::au R b x::pt en (wv (es.map aq))::bD ow SP d p lv lg at_ x cs ws (fs.map aq) (pt SP (wv ss)::(es.map ao++(fs.map ao++O)))
def uN (ro:Ro K R)(hk:4<=k)(le:es.length<=1000)(e:es.map dS=fs.map dS)(z:Sep (qH R m l s b en ow SP d p lv lg at_ ds ss x cs ws es fs O) H)(q:∀ H',Sep (qH R m l s b en ow SP d p lv lg at_ ds ss x cs ws es fs O) H'->Q (.bl true) H'):ae tab R k 118 [wf m,wf ow] H Q E:=by
 delta gp;right;refine af dE z .e rfl rfl ?_;left;refine rS ro nofun z (λt t1 l1 H1 z1=>?_);clear z;have z2:Sep (bD ow SP d p lv lg at_ x cs ws (fs.map aq) (pt t (ww [wn at_,wf t1,wf l1])::pt l1 (wv (cs.map wn))::tu t1 (x.ls.map wn)::aW R m l s b en at_ ds::aC R s cs ws::au R b x::pt en (wv (es.map aq))::pt SP (wv ss)::(es.map ao++(fs.map ao++O)))) H1:=z1.sub (by ac_nf);clear z1;right;refine AK nofun z2 (λt' t1' l1' H2 z3=>?_);clear z2;left;refine uF (Iq (ns:=x.ls) (cs:=cs) (by grind) z3.at (by grind) (by grind) (by grind) (by grind)) (by decide) (λg=>Sep.ne (z3.sub (Γ':=[pt t' (ww [wn at_,wf t1',wf l1']),pt t (ww [wn at_,wf t1,wf l1])]) (by ac_nf)) g.symm) ?_;refine ax rfl ?_;have z4:Sep (aW R m l s b en at_ ds::aC R s cs ws::bD ow SP d p lv lg at_ x cs ws (fs.map aq) (au R b x::pt en (wv (es.map aq))::pt SP (wv ss)::(es.map ao++(fs.map ao++O)))) H2:=z3.sub (by ac_nf);clear z3;right;refine af dE z4 .e rfl rfl ?_;left;refine oy nofun z4 (λl2 H3 z5=>?_);clear z4;right;refine uF (vW (by grind) (by grind)) (by decide) (Sep.ne (z5.sub (Γ':=[pt l2 (wv (ws.map wp)),pt lv (wv (ws.map wp))]) (by ac_nf))) ?_;refine ax rfl ?_;have z6:Sep (aW R m l s b en at_ ds::pt en (wv (es.map aq))::aC R s cs ws::au R b x::bD ow SP d p lv lg at_ x cs ws (fs.map aq) (pt SP (wv ss)::(es.map ao++(fs.map ao++O)))) H3:=z5.sub (by ac_nf);clear z5;right;refine af dE z6 .e rfl rfl ?_;left;have z7:Sep (aW R m l s b en at_ ds::pt en (wv (es.map aq))::(es.map ao++(aC R s cs ws::au R b x::bD ow SP d p lv lg at_ x cs ws (fs.map aq) (pt SP (wv ss)::(fs.map ao++O))))) H3:=Sep.mv (P:=[_,_]) (Δ:=[_,_,_,_,_,_,_,_]) (L:=es.map ao) z6;refine t4 nofun le z7 (λD hs H4 eh z8=>?_);clear z6 z7;have z9:Sep (pt D (wv (hs.map aq))::aW R m l s b en at_ ds::pt en (wv (es.map aq))::aC R s cs ws::au R b x::bD ow SP d p lv lg at_ x cs ws (fs.map aq) (pt SP (wv ss)::((hs.map ao++es.map ao)++(fs.map ao++O)))) H4:=Sep.mv (P:=[_,_,_]) (Δ:=hs.map ao++es.map ao) (L:=[_,_,_,_,_,_,_,_]) (by rw[li];exact z8);rw[li]at z9;clear z8;right;refine zW (GB (eh.trans e) z9.at (z9.get (by symm)) (λ{i a c} ha hc=>⟨_,(z9.pull (A:=ao c) (.j2 (.j2 (.j2 (.j2 (.j2 (.t (aa (aa (cq hc))))))))) ).pull (A:=ao a) (.j2 (.j2 (.j2 (.j2 (.j2 (.j2 (cq ha)))))))⟩)) (by decide) (Sep.ne (z9.sub (Γ':=[pt D (wv (hs.map aq)),pt lg (wv (fs.map aq))]) (by ac_nf))) ?_;have za:Sep (aW R m l s b en at_ ds::pt en (wv (es.map aq))::aC R s cs ws::au R b x::bD ow SP d p lv lg at_ x cs ws (fs.map aq) (pt SP (wv ss)::(es.map ao++(fs.map ao++O)))) H4:=Sep.cut (A:=[_,_,_,_,_,_,_,_,_,_]) (B:=hs.map ao) z9.drop;exact q H4 (za.sub (by ac_nf))
end
section
variable {a:Addr}{cs:List Int}{ws:List Str}{i v:Int}
def uA (hk:1<=k)(h0:0<=i)(h1:i<cs.length)(hv:0<=v/\v<=1000000000)(z:Sep O H)(r:aH (aC R a cs ws) (aC R a (cs.set i.toNat v) ws) O Γ')(q:∀ H',Sep Γ' H'->Q wr H'):ae tab R k 93 [wf a,wn i,wn v] H Q E:=by
 obtain⟨Δ,p,p'⟩:=r.bE;obtain⟨hok,z2⟩:=fK (z.pull p);delta eG;obtain⟨dx,c,b,z3⟩:=bz z2;right;refine cI z3 (by ac_rfl) (bT h0 (by rw[ci];exact h1)) rfl (λH2 z4=>?_);right;refine q H2 (Sep.push p' (gA ⟨by rw[length_set];exact hok.1,by rw[length_set];exact hok.2.1,by rw[length_set];exact hok.2.2.1,nO hok.2.2.2 hv.1 hv.2⟩ ?_));rw[List.map_set];exact cx z4
def tY {t:Addr}(ro:Ro K R)(hk:5<=k)(hx:x.ok)(z:Sep O H)(ht:H t=some (ww (x.ls.map wn)))(q:∀ b H',Sep (au R b x::O) H'->Q (wf b) H'):ae tab R k 19 [wf t] H Q E:=by
 obtain⟨h,t',l,w,s,m⟩:=x;delta mM;right;refine jm ht rfl ?_;right;refine jm ht rfl ?_;right;refine jm ht rfl ?_;right;refine jm ht rfl ?_;right;refine jm ht rfl ?_;right;refine jm ht rfl ?_;right;intro b dx g1 g2 g3;exact rY ro nofun hx (gk z g1 g2 g3) (λH2 z2=>⟨rfl,q b H2 z2⟩)
end
abbrev nD (c0:List Int):List (Int×Int)->List Int->List Int
 | [],cs=>cs
 |p::g,cs=>nD c0 g (cs.set p.1.toNat (gt c0 p.1))
def f9 {c0:List Int}:∀ {g:List (Int×Int)}{cs:List Int},(nD c0 g cs).length=cs.length
 | [],cs=>rfl
 |p::g,cs=>(f9 (g:=g)).trans (length_set ..)
def pU {c0:List Int}:∀ {g h:List (Int×Int)}{cs:List Int},nD c0 (g++h) cs=nD c0 h (nD c0 g cs)
 | [],h,cs=>rfl
 |p::g,h,cs=>pU (g:=g)
def uS {c0:List Int}{n:Nat}:∀ {g:List (Int×Int)}{cs:List Int},n<cs.length->(nD c0 g cs)[n]? =if n ∈ g.map (·.1.toNat) then some (gt c0 n) else cs[n]?
 | [],cs,_=>by rw[nD,if_neg (by simp)]
 |p::g,cs,h=>by
  rw[nD,uS (by rw[length_set];exact h),map_cons]
  by_cases hg:n ∈ g.map (·.1.toNat)
  .rw[if_pos hg,if_pos (dL _ hg)]
  .rw[if_neg hg]
   by_cases e:p.1.toNat=n
   .rw[if_pos (by rw[e];exact mo),e,getElem?_set_self h];unfold gt;rw[e,sK]
   .rw[if_neg (λg2=>by rcases nw.mp g2 with g2|g2;exact e g2.symm;exact hg g2),getElem?_set_ne e]
def B8 {g:List (Int×Int)}{cs:List Int}:nD c0 g.reverse cs=nD c0 g cs:=by
 refine List.ext_getElem? λn=>?_
 by_cases h:n<cs.length
 .rw[uS h,uS h,map_reverse]
  by_cases hm:n ∈ g.map (·.1.toNat)
  .rw[if_pos hm,if_pos (mem_reverse.mpr hm)]
  .rw[if_neg hm,if_neg (λg2=>hm (mem_reverse.mp g2))]
 .rw[getElem?_eq_none (by rw[f9];omega),getElem?_eq_none (by rw[f9];omega)]
abbrev qI (n m:Nat)(e:aO):Prop:=(0<=e.at_/\e.at_<=(m:Int))/\e.x.ok/\e.c0.length=n/\cA e.c0/\e.g.length<=2/\∀ p ∈ e.g,0<=p.1/\p.1<(n:Int)
section
variable {m l s b en:Addr}{at_:Int}{ds:List V}{x:Bx}{cs:List Int}{ws:List Str}{e:aO}{mm:Nat}
def FR (ro:Ro K R)(hk:7<=k)(hl:cs.length=ws.length)(ok:qI ws.length mm e)(z:Sep (aW R m l s b en at_ ds::aC R s cs ws::au R b x::ao e::O) H)
  (q:∀ b' H',Sep (aW R m l s b' en e.at_ ds::aC R s (nD e.c0 e.g cs) ws::au R b' e.x::O) H'->Q wr H'):ae tab R k 57 [wf m,wf e.te] H Q E:=by
 obtain⟨_,hx,hc0,hcc,hg,hin⟩:=ok;delta fB;obtain⟨ts,z1⟩:=uT (z.pull (A:=ao e) .k3);have hch:=bX.of (z1.pull (A:=bX ts e.c0 e.g) .k3);clear z;right;have z2:Sep (aW R m l s b en at_ ds::aC R s cs ws::au R b x::tu e.te [wn e.at_,wf e.t1,wf e.lc]::tu e.t1 (e.x.ls.map wn)::pt e.lc (wv (ts.map wf))::bX ts e.c0 e.g::O) H:=z1.sub (by ac_nf);clear z1;refine fY (xs:=ts.map wf) (λi U H=>∃ u,U=[some (wf m),some (wf e.te),u]/\Sep (aW R m l s b en at_ ds::aC R s (nD e.c0 (e.g.take i) cs) ws::au R b x::tu e.te [wn e.at_,wf e.t1,wf e.lc]::tu e.t1 (e.x.ls.map wn)::pt e.lc (wv (ts.map wf))::bX ts e.c0 e.g::O) H) ⟨none,rfl,z2⟩ ?_ ?_ ?_
 .rintro i U H ⟨u,rfl,zz⟩;exact bb.of (zz.get (by symm))
 .rintro i v U H hv ⟨u,rfl,zz⟩;rw[io]at hv;obtain⟨t,ht,rfl⟩:=pc.mp hv;have hlt:=(ul.mp ht).1;have hgi:e.g[i]? =some (e.g[i]'(by rw[<-hch.1];exact hlt)):=lw _;generalize e.g[i]'(by rw[<-hch.1];exact hlt)=p at hgi;have hc:=(bX.of (zz.pull (A:=bX ts e.c0 e.g) (.j2 (.j2 (.j2 .e))))).2 i t p ht hgi;have hp:=hin p (db hgi);obtain⟨dx,z3⟩:=gZ zz;right;refine af bg z3 (by symm) rfl rfl ?_;right;refine jm hc rfl ?_;right;refine jm hc rfl ?_;right;clear z3;refine uA nofun hp.1 (by rw[f9];omega) (oq hcc) zz .k1 (λH2 z4=>?_);right;refine⟨_,rfl,?_⟩;have et:nD e.c0 (e.g.take (i+1)) cs=(nD e.c0 (e.g.take i) cs).set p.1.toNat (gt e.c0 p.1):=by
   rw[take_succ,hgi,pU]
   rfl
  rw[et];exact z4
 .rintro U H ⟨u,rfl,zz⟩;rw[ci,hch.1,take_length]at zz;right;refine tY ro nofun hx zz (zz.kM (by symm)) (λb' H2 z3=>?_);obtain⟨dx,z4⟩:=gZ (z3.pull .k1);clear zz z3;right;rename_i H3 z5 H4 z6;exact q b' H4 (qY (dx:=dx) (z6.sub (by ac_nf)))
abbrev gy:List aO->Int×Bx×List Int->Int×Bx×List Int
 | [],st=>st
 |e::r,st=>gy r (e.at_,e.x,nD e.c0 e.g st.2.2)
def l8 {e:aO}:∀ {r:List aO}{st:Int×Bx×List Int},gy (r++[e]) st=(e.at_,e.x,nD e.c0 e.g (gy r st).2.2)
 | [],st=>rfl
 |f::r,st=>l8 (r:=r)
def qu:∀ {r:List aO}{st:Int×Bx×List Int},(gy r st).2.2.length=st.2.2.length
 | [],st=>rfl
 |f::r,st=>(qu (r:=r)).trans f9
def vm {y:V}(s:Sep O H)(r:aH (pt a (wv (xs++[y]))) (pt a (wv xs)) O Γ')(h:∀ H',Sep Γ' H'->Q y H'):DJ .pop a (xs++[y]) [] H Q:=by
 unfold DJ;exact .inr ⟨rfl,y,by simp,by rw[List.dropLast_concat];exact h _ (s.put r rfl)⟩
def DS (ro:Ro K R)(hk:9<=k)(hn:n<=es.length)(le:es.length<=1000)(hl:cs.length=ws.length)(ok:∀ e ∈ es,qI ws.length mm e) (z:Sep (aW R m l s b en at_ ds::aC R s cs ws::au R b x::pt en (wv (es.map aq))::(es.map ao++O)) H)
  (q:∀ b' H',Sep (aW R m l s b' en (gy (es.drop (es.length-n)).reverse (at_,x,cs)).1 ds::aC R s (gy (es.drop (es.length-n)).reverse (at_,x,cs)).2.2 ws::au R b' (gy (es.drop (es.length-n)).reverse (at_,x,cs)).2.1::pt en (wv ((es.take (es.length-n)).map aq))::((es.take (es.length-n)).map ao++O)) H'->Q wr H'):ae tab R k 56 [wf m,wn (n:Int)] H Q E:=by
 delta fv;obtain⟨dx,z1⟩:=gZ z;right;refine aR (t:="int") nofun rfl ?_;right;rw[ci];refine aJ (λg=>?_) (λg=>absurd nofun g);right;clear z1;rw[sK];refine dh (λi U H=>∃ u b',U=[some (wf m),some (wn (n:Int)),u]/\Sep (aW R m l s b' en (gy (es.drop (es.length-i)).reverse (at_,x,cs)).1 ds::aC R s (gy (es.drop (es.length-i)).reverse (at_,x,cs)).2.2 ws::au R b' (gy (es.drop (es.length-i)).reverse (at_,x,cs)).2.1::pt en (wv ((es.take (es.length-i)).map aq))::((es.take (es.length-i)).map ao++O)) H) ⟨none,b,rfl,?_⟩ ?_ ?_
 .rw[Nat.sub_zero,drop_length,take_length];exact z
 .rintro i U H hi ⟨u,b',rfl,zz⟩;obtain⟨j,hj⟩:∃ j,es.length-i=j+1:=⟨es.length-i-1,by omega⟩;have hj2:es.length-(i+1)=j:=by omega
  have ej:es[j]? =some (es[j]'nofun):=lw _;generalize es[j]'nofun=e at ej;have et:es.take (j+1)=es.take j++[e]:=by rw[take_succ,ej];rfl
  have ed:(es.drop j).reverse=(es.drop (j+1)).reverse++[e]:=by
   obtain⟨hlt,he⟩:=ul.mp ej;rw[drop_eq_getElem_cons hlt,he,reverse_cons]
  rw[hj2,ed,l8];rw[hj,et]at zz;have bl:=qu (r:=(es.drop (j+1)).reverse) (st:=(at_,x,cs));generalize gy (es.drop (j+1)).reverse (at_,x,cs)=st at zz bl;rw[f8 (f:=aq)]at zz;have oke:=ok e (db ej);obtain⟨dx,z1⟩:=gZ zz;right;refine af dE zz .e rfl rfl ?_;right;refine⟨en,_,rfl,zz.get .k3,?_⟩;right;refine⟨_,zz.get .k3,vm zz .k3 (λH2 z2=>?_)⟩;clear z1 zz;right;have z3:Sep (aW R m l s b' en st.1 ds::aC R s st.2.2 ws::au R b' st.2.1::ao e::pt en (wv ((es.take j).map aq))::((es.take j).map ao++O)) H2:=(z2.pull (A:=ao e) (.j2 (.j2 cj))).sub (by ac_nf);refine FR ro nofun (by rw[bl];exact hl) oke z3 (λb2 H3 z4=>?_);right;exact⟨_,b2,rfl,z4⟩
 .rintro U H ⟨u,b',rfl,zz⟩;right;exact q b' H zz
end
abbrev Ij (y x:Bx)(j:Nat):Bx:=⟨if 0<j then y.h else x.h,if 1<j then y.t else x.t,if 2<j then y.l else x.l,if 3<j then y.w else x.w,if 4<j then y.s else x.s,if 5<j then y.m else x.m⟩
def FC {y:Bx}(b:Bn):(Ij y x b.j).p (y.g b) b=Ij y x (b.j+1):=by cases b<;>rfl
def Jo {j:Nat}(h:j<6):∃ b:Bn,b.j=j:=by
 have:j=0\/j=1\/j=2\/j=3\/j=4\/j=5:=by omega
 rcases this with rfl|rfl|rfl|rfl|rfl|rfl
 .exact⟨.h,rfl⟩
 .exact⟨.t,rfl⟩
 .exact⟨.l,rfl⟩
 .exact⟨.w,rfl⟩
 .exact⟨.s,rfl⟩
 .exact⟨.m,rfl⟩
section
variable {ow SP d p lv lg:Addr}{at_:Int}{x:Bx}{cs:List Int}{ws:List Str}{fs:List aO}{mm:Nat}
def Dq (hk:1<=k)(hn:n<=fs.length)(le:fs.length<=1000)(hl:cs.length=ws.length)(ok:∀ e ∈ fs,qI ws.length mm e) (z:Sep (bD ow SP d p lv lg at_ x cs ws (fs.map aq) (fs.map ao++O)) H)
  (q:∀ H',Sep (bD ow SP d p lv lg (gy (fs.drop (fs.length-n)).reverse (at_,x,cs)).1 (gy (fs.drop (fs.length-n)).reverse (at_,x,cs)).2.1 (gy (fs.drop (fs.length-n)).reverse (at_,x,cs)).2.2 ws ((fs.take (fs.length-n)).map aq) ((fs.take (fs.length-n)).map ao++O)) H'->Q wr H'):ae tab R k 116 [wf ow,wn (n:Int)] H Q E:=by
 delta j8;right;rw[sK];refine dh (λi U H=>∃ u2 u3 u4 u5 u6 u7 u8 u9 u10,U=[some (wf ow),some (wn (n:Int)),u2,u3,u4,u5,u6,u7,u8,u9,u10]/\Sep (bD ow SP d p lv lg (gy (fs.drop (fs.length-i)).reverse (at_,x,cs)).1 (gy (fs.drop (fs.length-i)).reverse (at_,x,cs)).2.1 (gy (fs.drop (fs.length-i)).reverse (at_,x,cs)).2.2 ws ((fs.take (fs.length-i)).map aq) ((fs.take (fs.length-i)).map ao++O)) H) ⟨none,none,none,none,none,none,none,none,none,rfl,?_⟩ ?_ ?_
 .rw[Nat.sub_zero,drop_length,take_length];exact z
 .rintro i U H hi ⟨u2,u3,u4,u5,u6,u7,u8,u9,u10,rfl,zz⟩;clear z;obtain⟨j,hj⟩:∃ j,fs.length-i=j+1:=⟨fs.length-i-1,by omega⟩;have hj2:fs.length-(i+1)=j:=by omega
  have ej:fs[j]? =some (fs[j]'nofun):=lw _;generalize fs[j]'nofun=e at ej;have et:fs.take (j+1)=fs.take j++[e]:=by rw[take_succ,ej];rfl
  have ed:(fs.drop j).reverse=(fs.drop (j+1)).reverse++[e]:=by
   obtain⟨hlt,he⟩:=ul.mp ej;rw[drop_eq_getElem_cons hlt,he,reverse_cons]
  rw[hj2,ed,l8];rw[hj,et]at zz;have bl:=qu (r:=(fs.drop (j+1)).reverse) (st:=(at_,x,cs));generalize gy (fs.drop (j+1)).reverse (at_,x,cs)=st at zz bl;rw[f8 (f:=aq),show[e].map aq=[wf e.te] from rfl]at zz;obtain⟨ts,z1⟩:=uT ((zz.pull (A:=ao e) (.j2 (.j2 (.t cj)))));have hch:=bX.of (z1.pull (A:=bX ts e.c0 e.g) .k3);obtain⟨_,_,hc0,_,hg,hin⟩:=ok e (db ej);clear zz;right;refine⟨lg,_,rfl,z1.get (by symm),?_⟩;right;refine⟨_,z1.get (by symm),vm z1 (by ac_rfl) (λH2 z2=>?_)⟩;clear z1;left;refine⟨e.te,_,rfl,.inl (bp.of z2.atT),rfl,?_⟩;right;rename_i H3 z3;clear z2;refine zO rfl z3 (z3.get (a:=d) (.j2 (.j2 .k1))) (λnl H4 z4=>?_);have z4:Sep (pt nl (wv (kY.map wp))::_) H4:=z4;have z4:Sep (pt nl (wv (kY.map wp))::tu e.t1 (e.x.ls.map wn)::pt e.lc (wv (ts.map wf))::bX ts e.c0 e.g::bD ow SP d p lv lg e.at_ st.2.1 st.2.2 ws ((fs.take j).map aq) ((fs.take j).map ao++O)) H4:=z4.sub (by ac_nf);clear z3;left;refine JH (tp1:=false) (tp2:=true) (xs:=kY.map wp) (ys:=e.x.ls.map wn) (bb.of z4.at) (bp.of (z4.kM .k1)) ?_;refine vI (xs:=kY.map wp) (ys:=e.x.ls.map wn) (λc U H=>∃ u6 u7,U=[some (wf ow),some (wn (n:Int)),some (wn (0+(i:Int))),some (wn e.at_),some (wf e.t1),some (wf e.lc),u6,u7,u8,u9,u10]/\Sep (pt nl (wv (kY.map wp))::tu e.t1 (e.x.ls.map wn)::pt e.lc (wv (ts.map wf))::bX ts e.c0 e.g::bD ow SP d p lv lg e.at_ (Ij e.x st.2.1 c) st.2.2 ws ((fs.take j).map aq) ((fs.take j).map ao++O)) H) rfl ⟨u6,u7,rfl,z4⟩ ?_ ?_ ?_
  .rintro c U H ⟨v,w,rfl,hs⟩;exact⟨bb.of hs.at,bp.of (hs.kM .k1)⟩
  .rintro c y w T U H hy hw ⟨_,_,rfl,hs⟩ hT;have hc6:c<6:=(ul.mp hy).1;obtain⟨b,rfl⟩:=Jo hc6;rw[io,b.at]at hy;rw[io,e.x.gl b]at hw;cases hy;cases hw;have hs2:=hs.mY (xs:=[wp b.nm,wn (e.x.g b)]) hT;clear z4 hs;left;refine⟨T,_,rfl,.inl (bp.of hs2.atT),rfl,?_⟩;right;refine BC (n:=b) hs2 (by ac_rfl) (λH5 z5=>?_);rw[FC]at z5;right;exact⟨_,_,rfl,z5.drop⟩
  .rintro U H ⟨v6,v7,rfl,zz⟩;clear z4;have zz:Sep (pt nl (wv (kY.map wp))::tu e.t1 (e.x.ls.map wn)::pt e.lc (wv (ts.map wf))::bX ts e.c0 e.g::bD ow SP d p lv lg e.at_ e.x st.2.2 ws ((fs.take j).map aq) ((fs.take j).map ao++O)) H:=zz;right;refine K6 zz (zz.get .k2) (λrl H4 z4=>?_);have z4:Sep (pt rl (wv (ts.map wf).reverse)::bX ts e.c0 e.g::bD ow SP d p lv lg e.at_ e.x st.2.2 ws ((fs.take j).map aq) ((fs.take j).map ao++O)) H4:=z4.sub (by ac_nf);clear zz;right;refine fY (xs:=(ts.map wf).reverse) (λc U H=>∃ u8 u9 u10,U=[some (wf ow),some (wn (n:Int)),some (wn (0+(i:Int))),some (wn e.at_),some (wf e.t1),some (wf e.lc),v6,v7,u8,u9,u10]/\Sep (pt rl (wv (ts.map wf).reverse)::bX ts e.c0 e.g::bD ow SP d p lv lg e.at_ e.x (nD e.c0 (e.g.reverse.take c) st.2.2) ws ((fs.take j).map aq) ((fs.take j).map ao++O)) H) ⟨u8,u9,u10,rfl,z4⟩ ?_ ?_ ?_
   .rintro c U H ⟨_,_,_,rfl,hs⟩;exact bb.of hs.at
   .rintro c v U H hv ⟨_,_,_,rfl,hs⟩;clear z4;rw[<-map_reverse,io]at hv;obtain⟨t,ht,rfl⟩:=pc.mp hv;have hlt:=(ul.mp ht).1;rw[length_reverse]at hlt;rw[List.getElem?_reverse hlt]at ht;have hgi:e.g[ts.length-1-c]? =some (e.g[ts.length-1-c]'(by rw[<-hch.1];omega)):=lw _;generalize e.g[ts.length-1-c]'(by rw[<-hch.1];omega)=pr at hgi;have hc:=(bX.of (hs.pull (A:=bX ts e.c0 e.g) .k1)).2 _ t pr ht hgi;have hp:=hin pr (db hgi);left;refine⟨t,_,rfl,.inl (bp.of hc),rfl,?_⟩;right;refine cI hs (by ac_rfl) (bT hp.1 (by rw[ci,f9,bl,hl];exact hp.2)) rfl (λH5 z5=>?_);right;refine⟨_,_,_,rfl,?_⟩;have eu:nD e.c0 (e.g.reverse.take (c+1)) st.2.2=(nD e.c0 (e.g.reverse.take c) st.2.2).set pr.1.toNat (gt e.c0 pr.1):=by
     rw[take_succ,List.getElem?_reverse (by rw[<-hch.1];exact hlt),<-hch.1,hgi,pU]
     rfl
    rw[eu];rw[<-List.map_set]at z5;exact z5
   .rintro U H ⟨_,_,_,rfl,hs⟩;rw[length_reverse,ci,hch.1,<-length_reverse (as:=e.g),take_length,B8]at hs;right;exact⟨_,_,_,_,_,_,_,_,_,rfl,hs.drop.drop⟩
 .rintro U H ⟨_,_,_,_,_,_,_,_,_,rfl,zz⟩;right;exact q H zz
end
def ft.app (h:ft O ss rs):ft (Δ++O) ss rs:=⟨h.1,h.2.1,λi r e=>by
 obtain⟨a,_,e2,p⟩:=h.2.2 i r e;exact⟨a,_,e2,aa p⟩⟩
def KY {cs:List Int}(hl:cs.length=ws.length)(hx:0<=x.l):(gM rs at_ x cs ws).length<=2/\∀ p ∈ gM rs at_ x cs ws,0<=p.1/\p.1<(ws.length:Int):=by
 have nil:([]:List (Int×Int)).length<=2/\∀ p ∈ ([]:List (Int×Int)),0<=p.1/\p.1<(ws.length:Int):=⟨Nat.zero_le _,λp h=>nomatch h⟩;unfold gM;cases rs[at_.toNat]? with
 |none=>exact nil
 |some r=>
  dsimp only;cases ho:cZ x cs ws r with
  |on n x' cs'=>
   show(gR x cs r).length<=2/\∀ p ∈ gR x cs r,0<=p.1/\p.1<(ws.length:Int);obtain⟨h1,h2⟩:=EM hl hx ho;rw[h2,ci];refine⟨yW,λp hp=>?_⟩;obtain⟨c,hc,rfl⟩:=List.mem_map.mp hp;exact h1 c hc
  |_=>exact nil
def AJ:∀ {es fs:List aO}{st:Int×Bx×List Int},es.map dS=fs.map dS->gy es st=gy fs st
 | [],[],_,_=>rfl
 | [],_::_,_,h=>nomatch h
 |_::_,[],_,h=>nomatch h
 |e::es,f::fs,st,h=>by
  obtain⟨h1,h2⟩:=List.cons.inj h;have e1:e.at_=f.at_:=congrArg (·.1) h1;have e2:e.x=f.x:=congrArg (·.2.1) h1;have e3:e.c0=f.c0:=congrArg (·.2.2.1) h1;have e4:e.g=f.g:=congrArg (·.2.2.2) h1;unfold gy;rw[e1,e2,e3,e4];exact AJ h2
def AH {n m:Nat}:∀ {es:List aO}{st:Int×Bx×List Int},(∀ e ∈ es,qI n m e)->0<=st.1/\st.1<=(m:Int)->0<=(gy es st).1/\(gy es st).1<=(m:Int)
 | [],_,_,h=>h
 |e::es,st,h,_=>AH (es:=es) (λe he=>h e (dL _ he)) (h e mo).1
def qI.of {m:Nat}{f:aO}(h:dS e=dS f)(k:qI n m e):qI n m f:=by
 have e1:e.at_=f.at_:=congrArg (·.1) h;have e2:e.x=f.x:=congrArg (·.2.1) h;have e3:e.c0=f.c0:=congrArg (·.2.2.1) h;have e4:e.g=f.g:=congrArg (·.2.2.2) h;unfold qI at k⊢;rw[<-e1,<-e2,<-e3,<-e4];exact k
def qI.all {m:Nat}:∀ {es fs:List aO},es.map dS=fs.map dS->(∀ e ∈ es,qI n m e)->∀ f ∈ fs,qI n m f
 | [],[],_,h=>h
 | [],_::_,h,_=>nomatch h
 |_::_,[],h,_=>nomatch h
 |e::es,f::fs,h,k=>by
  obtain⟨h1,h2⟩:=List.cons.inj h;intro a ha;rcases nw.mp ha with rfl|ha
  .exact(k e mo).of h1
  .exact qI.all h2 (λe he=>k e (dL _ he)) a ha
def jr {fs:List aO}(e:es.map dS=fs.map dS):fs.length=es.length:=by
 have:=congrArg List.length e;rw[ci,ci]at this;exact this.symm
section
variable {m l s b en ow SP d p lv lg:Addr}{at_:Int}{x:Bx}{cs:List Int}{ws:List Str}{es fs:List aO}{S L P:List (Addr×Rw)}{n:Nat}
noncomputable abbrev eK (R:Rt)(L S:List (Addr×Rw))(O:List az):List az:=L.reverse.map (pV R)++(S.reverse.map mQ++O)
abbrev gj (R:Rt)(m l s en ow SP d p lv lg:Addr)(n:Nat)(S L P:List (Addr×Rw))(O:List az)(j:Nat)(H:Hp):Prop:=∃ b at_ x cs ws es fs,(0<=at_/\at_<=(S.length:Int))/\ws.length=n/\es.map dS=fs.map dS/\es.length<=j/\(∀ e ∈ es,qI n S.length e)/\Sep (qH R m l s b en ow SP d p lv lg at_ (P.map aF) (S.map aF) x cs ws es fs (eK R L S O)) H
def Kk {j:Nat}(ro:Ro K R)(hk:11<=k)(hj:j<=1000)(okS:∀ r ∈ S.map (·.2),Rw.ok r) (eP:P.map (·.2)=S.map (·.2)) (hP:∀ a ∈ P,a ∈ L) (z:gj R m l s en ow SP d p lv lg n S L P O j H)
  (q:∀ w H1,(∀ {Q:VK}{E:XK},(∀ H',gj R m l s en ow SP d p lv lg n S L P O (j+1) H'->Q (wp w) H')->ae tab R k 115 [wf ow] H1 Q E)->Q (wp w) H1):ae tab R k 54 [wf m] H Q E:=by
 obtain⟨b,at_,x,cs,ws,es,fs,ha,hn,e,le,hg,z⟩:=z;obtain⟨hl,_,l60,hc⟩:=gP z .k1;have xo:=(dI (z.pull .k2)).1;have hx:0<=x.l:=xo.2.2.1.1;have lf:=jr e;have lP:P.length=S.length:=by
  have:=congrArg List.length eP
  rwa [ci,ci]at this
 have hrd:c9 R (eK R L S O) (P.map aF) (S.map (·.2)):=eP▸qa hP;have hsd:ft (eK R L S O) (S.map aF) (S.map (·.2)):=(rh (S:=S) (O:=O) rfl okS).app;obtain⟨g0,g1,_⟩:=KW (x:=x) (cs:=cs) (ws:=ws) ha.1 (by rw[ci];exact ha.2) okS;rw[ci]at g1;refine Dr (rs:=S.map (·.2)) ro hk ha.1 (by rw[ci,lP];exact ha.2) (by rw[ci];omega) hrd.app.app.more.more.more.more.more.more z (λhon te t1 lc H1 z1=>?_) (λhno H1 z1=>?_)
 .refine q "on" H1 (λ{Q E} q2=>?_);have z2:Sep (bD ow SP d p lv lg at_ x cs ws (fs.map aq) (pt SP (wv (S.map aF))::ao ⟨te,t1,lc,at_,x,cs,gM (S.map (·.2)) at_ x cs ws⟩::aW R m l s b en (mS (S.map (·.2)) at_ x cs ws).at_ (P.map aF)::aC R s (mS (S.map (·.2)) at_ x cs ws).cs ws::au R b (mS (S.map (·.2)) at_ x cs ws).x::pt en (wv (es.map aq++[wf te]))::(es.map ao++(fs.map ao++eK R L S O)))) H1:=z1.sub (by ac_nf);clear z z1;refine Er (rs:=S.map (·.2)) nofun ha.1 (by rw[ci];exact ha.2) hx hl nofun (by rw[ci];omega) hsd.app.app.more.more.more.more.more z2 (λ_ te' t1' lc' H2 z3=>q2 H2 ?_) (λhno=>absurd hon hno);clear z2;have gf:=KY (rs:=S.map (·.2)) (at_:=at_) hl hx;generalize gM (S.map (·.2)) at_ x cs ws=g at z3 gf
  generalize mS (S.map (·.2)) at_ x cs ws=M at z3 g0 g1
  have z4:Sep (ao ⟨te',t1',lc',at_,x,cs,g⟩::ao ⟨te,t1,lc,at_,x,cs,g⟩::aW R m l s b en M.at_ (P.map aF)::aC R s M.cs ws::au R b M.x::pt en (wv (es.map aq++[wf te]))::bD ow SP d p lv lg M.at_ M.x M.cs ws (fs.map aq++[wf te']) (pt SP (wv (S.map aF))::(es.map ao++(fs.map ao++eK R L S O)))) H2:=z3.sub (by ac_nf);have z5:=Sep.push (.j2 (.j2 (.j2 (.j2 (.j2 (.t (aa cj))))))) z4;have z6:=Sep.push (.j2 (.j2 (.j2 (.j2 (.j2 cj))))) z5;refine⟨b,M.at_,M.x,M.cs,ws,es++[⟨te,t1,lc,at_,x,cs,g⟩],fs++[⟨te',t1',lc',at_,x,cs,g⟩],⟨g0,g1⟩,hn,?_,?_,?_,?_⟩
  .rw[f8,f8,e]
   rfl
  .rw[cr,ge]
   omega
  .intro a h;rcases mem_append.mp h with h|h
   .exact hg a h
   .rw[mem_singleton.mp h];exact⟨ha,xo,hl.trans hn,hc,gf.1,hn▸gf.2⟩
  .show Sep (aW R m l s b en M.at_ (P.map aF)::aC R s M.cs ws::au R b M.x::pt en (wv ((es++[_]).map aq))::bD ow SP d p lv lg M.at_ M.x M.cs ws ((fs++[_]).map aq) _) H2;rw[f8 (f:=aq),f8 (f:=aq)];exact z6
 .refine q _ H1 (λ{Q E} q2=>?_);have z2:Sep (bD ow SP d p lv lg at_ x cs ws (fs.map aq) (pt SP (wv (S.map aF))::aW R m l s b en (mS (S.map (·.2)) at_ x cs ws).at_ (P.map aF)::aC R s (mS (S.map (·.2)) at_ x cs ws).cs ws::au R b (mS (S.map (·.2)) at_ x cs ws).x::pt en (wv (es.map aq))::(es.map ao++(fs.map ao++eK R L S O)))) H1:=z1.sub (by ac_nf);clear z z1;refine Er (rs:=S.map (·.2)) nofun ha.1 (by rw[ci];exact ha.2) hx hl nofun (by rw[ci];omega) hsd.app.app.more.more.more.more z2 (λhon=>absurd hon hno) (λ_ H2 z3=>q2 H2 ?_);exact⟨b,_,_,_,ws,es,fs,⟨g0,g1⟩,hn,e,by omega,hg,z3.sub (by ac_nf)⟩
def gj.st {j:Nat}(ro:Ro K R)(hk:4<=k)(hj:j<=1000)(z:gj R m l s en ow SP d p lv lg n S L P O j H)(q:∀ H',gj R m l s en ow SP d p lv lg n S L P O j H'->Q (.bl true) H'):ae tab R k 118 [wf m,wf ow] H Q E:=by
 obtain⟨b,at_,x,cs,ws,es,fs,ha,hn,e,le,hg,z⟩:=z;exact uN ro hk nofun e z (λH' z'=>q H' ⟨b,at_,x,cs,ws,es,fs,ha,hn,e,le,hg,z'⟩)
def JC {j nb:Nat}(ro:Ro K R)(hk:9<=k)(hj:j<=1000)(hb:nb<=es.length)(ha:0<=at_/\at_<=(S.length:Int))(hn:ws.length=n)(e:es.map dS=fs.map dS)(le:es.length<=j)(hg:∀ e ∈ es,qI n S.length e) (z:Sep (qH R m l s b en ow SP d p lv lg at_ (P.map aF) (S.map aF) x cs ws es fs (eK R L S O)) H)
  (q:∀ H1,(∃ Δ,Sep (bD ow SP d p lv lg at_ x cs ws (fs.map aq) Δ) H1)->(∀ {Q:VK}{E:XK},(∀ H',gj R m l s en ow SP d p lv lg n S L P O (es.length-nb) H'->Q wr H')->ae tab R k 116 [wf ow,wn (nb:Int)] H1 Q E)->Q wr H1):ae tab R k 56 [wf m,wn (nb:Int)] H Q E:=by
 obtain⟨hl,_,l60,hc⟩:=gP z .k1;have lf:=jr e;have z1:Sep (aW R m l s b en at_ (P.map aF)::aC R s cs ws::au R b x::pt en (wv (es.map aq))::(es.map ao++(bD ow SP d p lv lg at_ x cs ws (fs.map aq) (pt SP (wv (S.map aF))::(fs.map ao++eK R L S O))))) H:=Sep.mv (P:=[_,_,_,_]) (Δ:=[_,_,_,_,_,_]) (L:=es.map ao) z;clear z;refine DS (mm:=S.length) ro hk hb nofun hl (by rw[hn];exact hg) z1 (λb' H1 z2=>?_);clear z1;have eb:gy (es.drop (es.length-nb)).reverse (at_,x,cs)=gy (fs.drop (fs.length-nb)).reverse (at_,x,cs):=AJ (by rw[map_reverse,map_reverse,map_drop,map_drop,e,lf]);have ba:=AH (n:=n) (m:=S.length) (es:=(es.drop (es.length-nb)).reverse) (st:=(at_,x,cs)) (λe he=>hg e (List.mem_of_mem_drop (mem_reverse.mp he))) ha;rw[eb]at z2 ba;have z3:Sep (bD ow SP d p lv lg at_ x cs ws (fs.map aq) (aW R m l s b' en (gy (fs.drop (fs.length-nb)).reverse (at_,x,cs)).1 (P.map aF)::aC R s (gy (fs.drop (fs.length-nb)).reverse (at_,x,cs)).2.2 ws::au R b' (gy (fs.drop (fs.length-nb)).reverse (at_,x,cs)).2.1::pt en (wv ((es.take (es.length-nb)).map aq))::((es.take (es.length-nb)).map ao++(pt SP (wv (S.map aF))::(fs.map ao++eK R L S O))))) H1:=Sep.mv (P:=[]) (Δ:=[_,_,_,_]++(es.take (es.length-nb)).map ao) (L:=[_,_,_,_,_]) z2;refine q H1 ⟨_,z3⟩ (λ{Q E} q2=>?_);have z4:Sep (bD ow SP d p lv lg at_ x cs ws (fs.map aq) (fs.map ao++(aW R m l s b' en (gy (fs.drop (fs.length-nb)).reverse (at_,x,cs)).1 (P.map aF)::aC R s (gy (fs.drop (fs.length-nb)).reverse (at_,x,cs)).2.2 ws::au R b' (gy (fs.drop (fs.length-nb)).reverse (at_,x,cs)).2.1::pt en (wv ((es.take (es.length-nb)).map aq))::((es.take (es.length-nb)).map ao++(pt SP (wv (S.map aF))::eK R L S O))))) H1:=by
  have y:=Sep.mv (P:=bD ow SP d p lv lg at_ x cs ws (fs.map aq) []) (Δ:=[_,_,_,_]++((es.take (es.length-nb)).map ao++[_])) (L:=fs.map ao) (O:=eK R L S O) (by simpa only [li,cons_append,nil_append] using z3);simpa only [li,cons_append,nil_append] using y
 clear z2 z3;refine Dq (mm:=S.length) nofun nofun nofun hl (by rw[hn];exact qI.all e hg) z4 (λH2 z5=>q2 H2 ?_);clear z4;generalize gy (fs.drop (fs.length-nb)).reverse (at_,x,cs)=st at z5 ba;refine⟨b',st.1,st.2.1,st.2.2,ws,es.take (es.length-nb),fs.take (fs.length-nb),ba,hn,?_,?_,λe he=>hg e (List.mem_of_mem_take he),?_⟩
 .rw[map_take,map_take,e,lf]
 .rw[dl];exact Nat.min_le_left _ _
 .have z6:Sep (bD ow SP d p lv lg st.1 st.2.1 st.2.2 ws ((fs.take (fs.length-nb)).map aq) (aW R m l s b' en st.1 (P.map aF)::aC R s st.2.2 ws::au R b' st.2.1::pt en (wv ((es.take (es.length-nb)).map aq))::((es.take (es.length-nb)).map ao++(pt SP (wv (S.map aF))::((fs.take (fs.length-nb)).map ao++eK R L S O))))) H2:=by
   have y:=Sep.mv (P:=bD ow SP d p lv lg st.1 st.2.1 st.2.2 ws ((fs.take (fs.length-nb)).map aq) []) (Δ:=(fs.take (fs.length-nb)).map ao) (L:=[_,_,_,_]++((es.take (es.length-nb)).map ao++[_])) (O:=eK R L S O) (by simpa only [li,cons_append,nil_append] using z5);simpa only [li,cons_append,nil_append] using y
  have z7:Sep (bD ow SP d p lv lg st.1 st.2.1 st.2.2 ws ((fs.take (fs.length-nb)).map aq) (aW R m l s b' en st.1 (P.map aF)::aC R s st.2.2 ws::au R b' st.2.1::pt en (wv ((es.take (es.length-nb)).map aq))::pt SP (wv (S.map aF))::((es.take (es.length-nb)).map ao++((fs.take (fs.length-nb)).map ao++eK R L S O)))) H2:=Sep.mv (P:=bD ow SP d p lv lg st.1 st.2.1 st.2.2 ws ((fs.take (fs.length-nb)).map aq) [aW R m l s b' en st.1 (P.map aF),aC R s st.2.2 ws,au R b' st.2.1,pt en (wv ((es.take (es.length-nb)).map aq))]) (Δ:=(es.take (es.length-nb)).map ao) (L:=[pt SP (wv (S.map aF))]) (O:=(fs.take (fs.length-nb)).map ao++eK R L S O) z6;exact z7.sub (by ac_nf)
end
structure Le where
 l:Addr
 s:Addr
 b:Addr
 en:Addr
 d:Addr
 p:Addr
 lv:Addr
 lg:Addr
 at_:Int
 x:Bx
 cs:List Int
 ws:List Str
 es:List aO
 fs:List aO
abbrev nj (R:Rt)(SP:Addr)(S P:List (Addr×Rw))(n j:Nat)(m ow:Addr):az:=bx λv:Le=>pu ((0<=v.at_/\v.at_<=(S.length:Int))/\v.ws.length=n/\v.es.map dS=v.fs.map dS/\v.es.length<=j/\∀ e ∈ v.es,qI n S.length e)::aW R m v.l v.s v.b v.en v.at_ (P.map aF)::aC R v.s v.cs v.ws::au R v.b v.x::pt v.en (wv (v.es.map aq))::bD ow SP v.d v.p v.lv v.lg v.at_ v.x v.cs v.ws (v.fs.map aq) (v.es.map ao++v.fs.map ao)
section
variable {m l s b en ow SP d p lv lg h:Addr}{at_:Int}{x:Bx}{cs:List Int}{ws:List Str}{es fs:List aO}{S L P:List (Addr×Rw)}{n j:Nat}
def C9 (z:Sep (nj R SP S P n j m ow::pt SP (wv (S.map aF))::eK R L S O) H):∃ l s en d p lv lg,gj R m l s en ow SP d p lv lg n S L P O j H:=by
 obtain⟨v,z⟩:=gY z;obtain⟨h1,h2,h3,h4,h5⟩:=Sep.pure z;refine⟨v.l,v.s,v.en,v.d,v.p,v.lv,v.lg,v.b,v.at_,v.x,v.cs,v.ws,v.es,v.fs,h1,h2,h3,h4,h5,?_⟩;have z1:Sep ([_,_,_,_,_,_,_,_,_]++((v.es.map ao++v.fs.map ao)++([pt SP (wv (S.map aF))]++eK R L S O))) H:=z.drop;have z2:=Sep.mv z1;rw[li]at z2;exact z2
def CH (z:gj R m l s en ow SP d p lv lg n S L P O j H):Sep (nj R SP S P n j m ow::pt SP (wv (S.map aF))::eK R L S O) H:=by
 obtain⟨b,at_,x,cs,ws,es,fs,h1,h2,h3,h4,h5,z⟩:=z;refine eg (⟨l,s,b,en,d,p,lv,lg,at_,x,cs,ws,es,fs⟩:Le) (Sep.jq ⟨h1,h2,h3,h4,h5⟩ ?_);exact Sep.mv (P:=[aW R m l s b en at_ (P.map aF),aC R s cs ws,au R b x,pt en (wv (es.map aq)),pt ow (wv [wf SP,wn at_,wf d,wf p,wf lv,wf lg]),ar d x,pt p (wv (cs.map wn)),pt lv (wv (ws.map wp)),pt lg (wv (fs.map aq))]) (Δ:=[pt SP (wv (S.map aF))]) (L:=es.map ao++fs.map ao) (O:=eK R L S O) (by rw[li];exact z)
def Md (z:Sep (qH R m l s b en ow SP d p lv lg at_ ds (S.map aF) x cs ws es fs (eK R L S (A::O))) H):Sep (A::qH R m l s b en ow SP d p lv lg at_ ds (S.map aF) x cs ws es fs (eK R L S O)) H:=z.pull (.j2 (.j2 (.j2 (.j2 (.j2 (aa (aa (aa (aa .e)))))))))
def G6 (z:Sep (A::qH R m l s b en ow SP d p lv lg at_ ds (S.map aF) x cs ws es fs (eK R L S O)) H):Sep (qH R m l s b en ow SP d p lv lg at_ ds (S.map aF) x cs ws es fs (eK R L S (A::O))) H:=z.push (.j2 (.j2 (.j2 (.j2 (.j2 (aa (aa (aa (aa .e)))))))))
def gj.mono {j':Nat}(hj:j<=j')(z:gj R m l s en ow SP d p lv lg n S L P O j H):gj R m l s en ow SP d p lv lg n S L P O j' H:=by
 obtain⟨b,at_,x,cs,ws,es,fs,h1,h2,h3,h4,h5,z⟩:=z;exact⟨b,at_,x,cs,ws,es,fs,h1,h2,h3,by omega,h5,z⟩
end
section
variable {m l s b en ow SP d p lv lg:Addr}{at_:Int}{ds:List V}{x:Bx}{cs:List Int}{ws:List Str}{es fs:List aO}
def xp (ro:Ro K R)(hk:9<=k)(n0:1<=ds.length)(n1:ds.length<=24)(h0:0<=at_)(h1:at_<=ds.length)(le:es.length<=1000)(hd:xX R O ds)(z:Sep (aW R m l s b en at_ ds::aC R s cs ws::au R b x::pt en (wv (es.map aq))::(es.map ao++O)) H)
  (q:∀ m2 l2 s2 b2 en2 (hs:List aO) H',hs.map dS=es.map dS->Sep (aW R m2 l2 s2 b2 en2 at_ ds::aC R s2 cs ws::au R b2 x::pt en2 (wv (hs.map aq))::(hs.map ao++(aW R m l s b en at_ ds::aC R s cs ws::au R b x::pt en (wv (es.map aq))::(es.map ao++O)))) H'->Q (wf m2) H'):ae tab R k 58 [wf m] H Q E:=by
 delta dM;obtain⟨dx,z1⟩:=gZ z;clear z;right;intro m2 dx2 g1 g2 g3;refine mN ro nofun n0 n1 h0 h1 .k2 .k3 (.j2 .k2) (λv hv=>?_) (gk z1 g1 g2 g3) (λl2 s2 b2 e0 H1 z2=>⟨rfl,?_⟩)
 .obtain⟨a,r,Δ',e,hp⟩:=hd v hv;exact⟨a,r,_,e,.j2 (.j2 (.j2 (aa hp)))⟩
 clear z1;have z3:=qY (dx:=dx) (z2.sub (Γ':=pt m _::pt dx _::pt l _::aW R m2 l2 s2 b2 e0 at_ ds::aC R s2 cs ws::au R b2 x::aC R s cs ws::au R b x::pt en (wv (es.map aq))::(es.map ao++O)) (by ac_nf));clear z2;right;refine af dE z3 .e rfl rfl ?_;left;have z3:Sep (aW R m l s b en at_ ds::pt en (wv (es.map aq))::aW R m2 l2 s2 b2 e0 at_ ds::aC R s2 cs ws::au R b2 x::aC R s cs ws::au R b x::(es.map ao++O)) H1:=z3.sub (by ac_nf);have z4:Sep (aW R m l s b en at_ ds::pt en (wv (es.map aq))::(es.map ao++(aW R m2 l2 s2 b2 e0 at_ ds::aC R s2 cs ws::au R b2 x::aC R s cs ws::au R b x::O))) H1:=Sep.mv (P:=[_,_]) (Δ:=[_,_,_,_,_]) (L:=es.map ao) z3;clear z3;refine t4 nofun le z4 (λD hs H2 eh z5=>?_);clear z4;have z6:Sep (aW R m2 l2 s2 b2 e0 at_ ds::(pt D (wv (hs.map aq))::aW R m l s b en at_ ds::pt en (wv (es.map aq))::(hs.map ao++(es.map ao++(aC R s2 cs ws::au R b2 x::aC R s cs ws::au R b x::O))))) H2:=z5.pull (.j2 (.t (aa (aa .e))));obtain⟨dx3,z7⟩:=gZ z6;clear z5 z6;right;rename_i H3 z8;refine q m2 l2 s2 b2 D hs H3 eh ?_;have z9:=qY (dx:=dx3) z8;have za:Sep (aW R m2 l2 s2 b2 D at_ ds::pt D (wv (hs.map aq))::aW R m l s b en at_ ds::pt en (wv (es.map aq))::aC R s2 cs ws::au R b2 x::aC R s cs ws::au R b x::(hs.map ao++(es.map ao++O))) H3:=by
  have y:=Sep.mv (P:=[_,_,_,_]) (Δ:=hs.map ao++es.map ao) (L:=[aC R s2 cs ws,au R b2 x,aC R s cs ws,au R b x]) (O:=O) (by rw[li];exact z9);rw[li]at y;exact y
 have zb:Sep (aW R m2 l2 s2 b2 D at_ ds::aC R s2 cs ws::au R b2 x::pt D (wv (hs.map aq))::aW R m l s b en at_ ds::aC R s cs ws::au R b x::pt en (wv (es.map aq))::(hs.map ao++(es.map ao++O))) H3:=za.sub (by ac_nf);exact Sep.mv (P:=[_,_,_,_]) (Δ:=[_,_,_,_]) (L:=hs.map ao) zb
def wD (hk:1<=k)(le:fs.length<=1000)(z:Sep (bD ow SP d p lv lg at_ x cs ws (fs.map aq) (fs.map ao++O)) H)
  (q:∀ ow2 d2 p2 lv2 lg2 (hs:List aO) H',hs.map dS=fs.map dS->Sep (bD ow2 SP d2 p2 lv2 lg2 at_ x cs ws (hs.map aq) (hs.map ao++(bD ow SP d p lv lg at_ x cs ws (fs.map aq) (fs.map ao++O)))) H'->Q (wf ow2) H'):ae tab R k 119 [wf ow] H Q E:=by
 delta kB;right;refine vU z (z.get .k1) (λd2 H1 z1=>?_);have z1:Sep (ar d2 x::bD ow SP d p lv lg at_ x cs ws (fs.map aq) (fs.map ao++O)) H1:=z1;clear z;right;rename_i p2 H2 z2 lv2 H3 z3;have z4:Sep (bD ow SP d p lv lg at_ x cs ws (fs.map aq) (ar d2 x::pt p2 (wv (cs.map wn))::pt lv2 (wv (ws.map wp))::(fs.map ao++O))) H3:=z3.sub (by ac_nf);clear z1 z2 z3;refine qZ (xs:=fs.map aq) (by rw[ci];exact le) (λD ys H=>∃ hs:List aO,ys=hs.map aq/\hs.map dS=(fs.take hs.length).map dS/\Sep (pt D (wv ys)::bD ow SP d p lv lg at_ x cs ws (fs.map aq) (ar d2 x::pt p2 (wv (cs.map wn))::pt lv2 (wv (ws.map wp))::(hs.map ao++(fs.map ao++O)))) H) (λD ys H ⟨hs,_,_,zz⟩=>bb.of (zz.get (.t (.j2 (.j2 .e))))) (λD hD=>⟨[],rfl,rfl,z4.new (o:=wv []) hD⟩) (λD ys y H hy hI=>?_) (λD ys H hl hI=>?_)
 .obtain⟨hs,rfl,e,zz⟩:=hI;rw[io,ci]at hy;obtain⟨o,eo,rfl⟩:=pc.mp hy;have hlt:=(ul.mp eo).1;obtain⟨ts,z2⟩:=uT (zz.pull (A:=ao o) (.j2 (.j2 (.j2 (.j2 (.t (aa (cq eo))))))));refine⟨o.te,wn o.at_,wf o.t1,wf o.lc,rfl,bp.of z2.atT,?_⟩;right;rename_i lc2 H3 z3 te2 H4 z4;have hc:=bX.of (z4.pull (A:=bX ts o.c0 o.g) (by symm));have ht:H4 o.t1=some (ww (o.x.ls.map wn)):=z4.kM (by symm);have z5:Sep (tu o.te [wn o.at_,wf o.t1,wf o.lc]::tu o.t1 (o.x.ls.map wn)::pt o.lc (wv (ts.map wf))::bX ts o.c0 o.g::tu te2 [wn o.at_,wf o.t1,wf lc2]::pt lc2 (wv (ts.map wf))::pt D (wv (hs.map aq))::bD ow SP d p lv lg at_ x cs ws (fs.map aq) (ar d2 x::pt p2 (wv (cs.map wn))::pt lv2 (wv (ws.map wp))::(hs.map ao++((fs.eraseIdx hs.length).map ao++O)))) H4:=z4.toT.sub (by ac_nf);have z6:=Sep.push (.j2 (.j2 (.j2 (.j2 (.j2 (.t (aa (cq eo)))))))) (xT z5);have z7:Sep (bX ts o.c0 o.g::tu o.t1 (o.x.ls.map wn)::_) H4:=(Sep.IB ht z6).free λ_=>hc
  have z8:=xT (e:=⟨te2,o.t1,lc2,o.at_,o.x,o.c0,o.g⟩) (z7.sub (Γ':=tu te2 _::tu o.t1 _::pt lc2 _::bX ts o.c0 o.g::pt D (wv (hs.map aq))::bD ow SP d p lv lg at_ x cs ws (fs.map aq) (ar d2 x::pt p2 (wv (cs.map wn))::pt lv2 (wv (ws.map wp))::(hs.map ao++(fs.map ao++O)))) (by ac_nf));have z9:=(z8.pull (A:=pt D (wv (hs.map aq))) .k1).set (o':=wv (hs.map aq++[wf te2])) rfl;refine t7.mk (z8.get .k1) (by rw[ci];omega) ⟨hs++[⟨te2,o.t1,lc2,o.at_,o.x,o.c0,o.g⟩],by rw[f8];rfl,?_,?_⟩
  .rw[cr,ge,f8,e,take_succ,eo,f8]
   rfl
  .exact Sep.push (.j2 (.j2 (.j2 (.j2 (.t cj))))) (z9.pull .k1)
 .obtain⟨hs,rfl,e,zz⟩:=hI;rw[ci,ci]at hl;rw[hl,take_length]at e;clear z4;right;rename_i ow2 H5 z5;refine q ow2 d2 p2 lv2 D hs H5 e ?_;have z6:Sep (bD ow2 SP d2 p2 lv2 D at_ x cs ws (hs.map aq) (bD ow SP d p lv lg at_ x cs ws (fs.map aq) (hs.map ao++(fs.map ao++O)))) H5:=z5.sub (by ac_nf);exact Sep.mv (P:=[_,_,_,_,_]) (Δ:=[_,_,_,_,_]) (L:=hs.map ao) z6
end
section
variable {m l s b en ow SP d p lv lg:Addr}{at_:Int}{ds ss lgs:List V}{x:Bx}{cs:List Int}{ws:List Str}{es fs:List aO}
def Sep.K8 {f g:α->az}(h:∀ {x:α}{O:List az}{H:Hp},Sep (f x::O) H->Sep (g x::O) H):∀ {l:List α}{O:List az}{H:Hp},Sep (l.map f++O) H->Sep (l.map g++O) H
 | [],_,_,z=>z
 |x::l,O,H,z=>by
  have z1:Sep (l.map f++(g x::O)) H:=Sep.mv (P:=[]) (Δ:=[g x]) (L:=l.map f) (h (x:=x) z);exact Sep.mv (P:=[]) (Δ:=l.map g) (L:=[g x]) (Sep.K8 h z1)
end
abbrev mP (n:Nat)(e:aO):az:=bx λvs:List V=>[tu e.te [wn e.at_,wf e.t1,wf e.lc],pt e.lc (wv vs),pu (vs.length=e.g.length+n)]
def Kw (z:Sep (ao e::O) H):Sep (mP 0 e::O) H:=by
 obtain⟨ts,z1⟩:=uT z;have c1:=(bX.of (z1.pull (A:=bX ts e.c0 e.g) .k3)).1;exact eg (ts.map wf) (Sep.push .k2 (Sep.jq (by rw[ci,c1];rfl) (z1.sub (.cons .e (.cons .k1 (.drop (.drop .refl)))))))
def Es (z:Sep (mP n e::O) H):∃ vs,vs.length=e.g.length+n/\Sep (tu e.te [wn e.at_,wf e.t1,wf e.lc]::pt e.lc (wv vs)::O) H:=by
 obtain⟨vs,z⟩:=gY z;have z:Sep (tu e.te [wn e.at_,wf e.t1,wf e.lc]::pt e.lc (wv vs)::pu (vs.length=e.g.length+n)::O) H:=z;exact⟨vs,z.drop.drop.pure,z.sub (.cons .e (.cons .e (.drop .refl)))⟩
def II (h:vs.length=e.g.length+n)(z:Sep (tu e.te [wn e.at_,wf e.t1,wf e.lc]::pt e.lc (wv vs)::O) H):Sep (mP n e::O) H:=eg vs (Sep.push .k2 (Sep.jq h z))
abbrev Ng (e:aO):Int:=(e.g.length:Int)+1
abbrev KU (e:aO):V:=wn (Ng e)
section
variable {m l s b en ow SP d p lv lg:Addr}{at_:Int}{ds ss:List V}{x:Bx}{cs:List Int}{ws:List Str}{es fs:List aO}
def Bd (ro:Ro K R)(hk:4<=k)(le:es.length<=990)(hg:∀ e ∈ es,e.g.length<=2) (z:Sep (qH R m l s b en ow SP d p lv lg at_ ds ss x cs ws es fs O) H) (q:∀ H',Sep (qH R m l s b en ow SP d p lv lg at_ ds ss x cs ws es fs O) H'->Q (.bl true) H'):ae tab R k 120 [wf m] H Q E:=by
 delta gm;have c60:=(gP z .k1).2.2.1;right;refine af dE z .e rfl rfl ?_;left;have z6:Sep (aW R m l s b en at_ ds::pt en (wv (es.map aq))::aC R s cs ws::au R b x::bD ow SP d p lv lg at_ x cs ws (fs.map aq) (pt SP (wv ss)::(es.map ao++(fs.map ao++O)))) H:=z.sub (by ac_nf);have z7:Sep (aW R m l s b en at_ ds::pt en (wv (es.map aq))::(es.map ao++(aC R s cs ws::au R b x::bD ow SP d p lv lg at_ x cs ws (fs.map aq) (pt SP (wv ss)::(fs.map ao++O))))) H:=Sep.mv (P:=[_,_]) (Δ:=[_,_,_,_,_,_,_,_]) (L:=es.map ao) z6;refine t4 nofun nofun z7 (λD hs H4 eh z8=>?_);clear z z6 z7;have hl:hs.length=es.length:=jr eh.symm;have hg2:∀ e ∈ hs,e.g.length<=2:=λe he=>by
  obtain⟨i,hi⟩:=List.getElem?_of_mem he;have h2:(hs.map dS)[i]? =(es.map dS)[i]? :=by rw[eh]
  rw[io,io,hi]at h2;obtain⟨f,hf,ef⟩:=pc.mp h2.symm;have e4:f.g=e.g:=congrArg (·.2.2.2) ef;rw[<-e4];exact hg f (db hf)
 have z9:Sep (hs.map (mP 0)++(pt D (wv (hs.map aq))::aW R m l s b en at_ ds::pt en (wv (es.map aq))::(es.map ao++(aC R s cs ws::au R b x::bD ow SP d p lv lg at_ x cs ws (fs.map aq) (pt SP (wv ss)::(fs.map ao++O)))))) H4:=Sep.K8 Kw (Sep.mv (P:=[]) (Δ:=[_,_,_]) (L:=hs.map ao) z8);have za:Sep (pt D (wv (hs.map aq))::aW R m l s b en at_ ds::pt en (wv (es.map aq))::(hs.map (mP 0)++(es.map ao++(aC R s cs ws::au R b x::bD ow SP d p lv lg at_ x cs ws (fs.map aq) (pt SP (wv ss)::(fs.map ao++O)))))) H4:=Sep.mv (P:=[]) (Δ:=hs.map (mP 0)) (L:=[_,_,_]) z9;have zb:Sep (qH R m l s b en ow SP d p lv lg at_ ds ss x cs ws es fs (pt D (wv (hs.map aq))::(hs.map (mP 0)++O))) H4:=by
  have y1:Sep ([pt D (wv (hs.map aq)),aW R m l s b en at_ ds,pt en (wv (es.map aq))]++(((hs.map (mP 0)++es.map ao)++(([aC R s cs ws,au R b x,pt ow (wv [wf SP,wn at_,wf d,wf p,wf lv,wf lg]),ar d x,pt p (wv (cs.map wn)),pt lv (wv (ws.map wp)),pt lg (wv (fs.map aq)),pt SP (wv ss)]++(fs.map ao++O)))))) H4:=by
   rw[li];exact za
  have y2:=Sep.mv y1;rw[li]at y2;have y3:Sep (([pt D (wv (hs.map aq)),aW R m l s b en at_ ds,pt en (wv (es.map aq))]++[aC R s cs ws,au R b x,pt ow (wv [wf SP,wn at_,wf d,wf p,wf lv,wf lg]),ar d x,pt p (wv (cs.map wn)),pt lv (wv (ws.map wp)),pt lg (wv (fs.map aq)),pt SP (wv ss)])++(hs.map (mP 0)++((es.map ao++fs.map ao)++O))) H4:=by
   rw[li,li];exact y2
  have y4:=Sep.mv y3;simp only[li]at y4;have y5:Sep (pt D (wv (hs.map aq))::qH R m l s b en ow SP d p lv lg at_ ds ss x cs ws es fs (hs.map (mP 0)++O)) H4:=Sep.sub (by ac_nf) (show Sep (pt D (wv (hs.map aq))::aW R m l s b en at_ ds::pt en (wv (es.map aq))::aC R s cs ws::au R b x::bD ow SP d p lv lg at_ x cs ws (fs.map aq) (pt SP (wv ss)::(es.map ao++(fs.map ao++(hs.map (mP 0)++O))))) H4 from y4);exact y5.push (.j2 (.j2 (.j2 (.j2 (.j2 (aa (aa .e)))))))
 clear z8 z9 za;have zz:=zb;right;refine af dE zb .e rfl rfl ?_;left;refine rS ro nofun zb (λt t1 l1 H5 z1=>?_);right;refine⟨l1,_,rfl,z1.get .k1,?_⟩;right;refine⟨_,z1.get .k1,lM z1 .k1 (by rw[ci];omega) (λH6 z2=>?_)⟩;have z3:Sep (aW R m l s b en at_ ds::aC R s cs ws::au R b x::pt en (wv (es.map aq))::bD ow SP d p lv lg at_ x cs ws (fs.map aq) (pt SP (wv ss)::(es.map ao++(fs.map ao++(pt D (wv (hs.map aq))::(hs.map (mP 0)++O)))))) H6:=z2.sub (by ac_nf);clear z1 z2 zz zb;right;refine af dE z3 .e rfl rfl ?_;left;refine oy nofun z3 (λl2 H7 z4=>?_);clear z3;right;refine⟨l2,_,rfl,z4.at,?_⟩;right;refine⟨_,z4.at,JM z4 .e (λH8 z5=>?_)⟩;have z6:Sep (pt D (wv (hs.map aq))::(hs.map (mP 0)++qH R m l s b en ow SP d p lv lg at_ ds ss x cs ws es fs O)) H8:=by
  have y1:=z5.drop.pull (A:=pt D (wv (hs.map aq))) (.j2 (.j2 (.j2 (.j2 (.j2 (aa (aa .e)))))));have y2:Sep ([pt D (wv (hs.map aq))]++(([aW R m l s b en at_ ds,aC R s cs ws,au R b x,pt en (wv (es.map aq)),pt ow (wv [wf SP,wn at_,wf d,wf p,wf lv,wf lg]),ar d x,pt p (wv (cs.map wn)),pt lv (wv (ws.map wp)),pt lg (wv (fs.map aq)),pt SP (wv ss)]++(es.map ao++fs.map ao))++(hs.map (mP 0)++O))) H8:=by
   rw[li,li];exact y1
  have y3:=Sep.mv y2;rw[li,li]at y3;exact y3
 clear z4 z5;generalize hT:qH R m l s b en ow SP d p lv lg at_ ds ss x cs ws es fs O=T at z6 q
 have at_o:∀ {c i:Nat}{o:aO}{H:Hp}{Γ':List az},hs[i]? =some o->Sep (hs.map (mP c)++Γ') H->∃ vs,vs.length=o.g.length+c/\H o.te=some (ww [wn o.at_,wf o.t1,wf o.lc])/\H o.lc=some (wv vs):=λ{c i o H Γ'} ho z=>by
  obtain⟨vs,hv,z1⟩:=Es (z.pull (cq ho));exact⟨vs,hv,z1.atT,z1.get .k1⟩
 right;refine pS (xs:=hs.map aq) (by rw[ci];omega) (λF ys H=>ys=((hs.take ys.length).map KU)/\Sep (pt F (wv ys)::pt D (wv (hs.map aq))::(hs.map (mP 0)++T)) H) (λF ys H hI=>bb.of (hI.2.get .k1)) (λF hF=>⟨rfl,z6.new (o:=wv []) hF⟩) (λF ys y H hy hI=>?_) (λF ys H hys hI=>?_)
 .obtain⟨ey,zz⟩:=hI;rw[io]at hy;obtain⟨o,ho,rfl⟩:=pc.mp hy;have hlt:=(ul.mp ho).1;obtain⟨vs,hv,a1,a2⟩:=at_o (c:=0) ho zz.drop.drop;right;refine jm a1 rfl ?_;right;refine fX a2 ?_;right;refine rz.mk zz.at nofun ⟨?_,zz.set (o':=wv (ys++[wn ((vs.length:Int)+1)])) rfl⟩;rw[cr,ge,take_succ,ho,f8,<-ey,hv]
  rfl
 obtain⟨ey,z7⟩:=hI;rw[ci]at hys;rw[hys,take_length]at ey;subst ey;clear z6;right;refine fY (xs:=hs.map aq) (λj U H=>∃ u,U=[some (wf m),some (wf D),some (wf F),u,none]/\Sep (pt F (wv (hs.map KU))::pt D (wv (hs.map aq))::((hs.take j).map (mP 1)++((hs.drop j).map (mP 0)++T))) H) ⟨none,rfl,z7⟩ ?_ ?_ ?_
 .rintro j U H ⟨u,rfl,zz⟩;exact bb.of (zz.get .k1)
 .rintro j v U H hv ⟨u,rfl,zz⟩;rw[io]at hv;obtain⟨o,ho,rfl⟩:=pc.mp hv;obtain⟨hlt,ho2⟩:=ul.mp ho;have hgo:=hg2 o (db ho);rw[drop_eq_getElem_cons hlt,ho2]at zz;obtain⟨vs,hvs,z1⟩:=Es (zz.pull (A:=mP 0 o) (.j2 (aa .e)));clear zz z7;right;refine jm z1.atT rfl ?_;right;refine⟨o.lc,_,rfl,z1.get .k1,?_⟩;right;rename_i t H2 z2;refine⟨_,z2.get .k2,lM z2 .k2 nofun (λH3 z3=>?_)⟩;right;have z4:=II (n:=1) (by rw[cr,ge];omega) z3.drop;refine⟨_,rfl,?_⟩;rw[take_succ,ho];exact z4.push (.j2 cj)
 .rintro U H ⟨u,rfl,zz⟩;clear z7;rw[ci,take_length,drop_length]at zz;have z8:Sep (pt F (wv (hs.map KU))::pt D (wv (hs.map aq))::(hs.map (mP 1)++T)) H:=zz;clear zz;right;refine pS (xs:=hs.map aq) (by rw[ci];omega) (λG ys H=>ys=((hs.take ys.length).map KU)/\Sep (pt G (wv ys)::pt F (wv (hs.map KU))::pt D (wv (hs.map aq))::(hs.map (mP 1)++T)) H) (λG ys H hI=>bb.of (hI.2.get .k2)) (λG hG=>⟨rfl,z8.new (o:=wv []) hG⟩) (λG ys y H hy hI=>?_) (λG ys H hys hI=>?_)
  .obtain⟨ey,zz⟩:=hI;rw[io]at hy;obtain⟨o,ho,rfl⟩:=pc.mp hy;have hlt:=(ul.mp ho).1;obtain⟨vs,hv,a1,a2⟩:=at_o (c:=1) ho zz.drop.drop.drop;right;refine jm a1 rfl ?_;right;refine fX a2 ?_;refine rz.mk zz.at nofun ⟨?_,zz.set (o':=wv (ys++[wn (vs.length:Int)])) rfl⟩;rw[cr,ge,take_succ,ho,f8,<-ey,hv]
   rfl
  obtain⟨ey,z9⟩:=hI;rw[ci]at hys;rw[hys,take_length]at ey;subst ey;clear z8;right;refine⟨D,_,rfl,z9.get .k2,?_⟩;right;rename_i tn H9 za;refine⟨_,za.get .k3,lM za .k3 (by rw[ci];omega) (λH3 z3=>?_)⟩;right;refine zW (pB (cs:=hs.map Ng) (by rw[List.map_map];exact z3.get .k1) (by rw[List.map_map];exact z3.get .k2)) (by decide) (Sep.ne z3.drop) ?_;exact q H3 (Sep.cut (A:=[]) (B:=hs.map (mP 1)) z3.drop.drop.drop.drop)
end
section
variable {m l s b en ow SP d p lv lg h:Addr}{at_:Int}{x:Bx}{cs:List Int}{ws:List Str}{es fs:List aO}{S L P:List (Addr×Rw)}{n j:Nat}
def Ea {N:Int}(ro:Ro K R)(hk:12<=k)(hj:j<=900)(hN:N<=1099400000000)(okS:∀ r ∈ S.map (·.2),Rw.ok r) (eP:P.map (·.2)=S.map (·.2)) (hP:∀ a ∈ P,a ∈ L) (z:gj R m l s en ow SP d p lv lg n S L P (hand h N::O) j H) (q:∀ H',gj R m l s en ow SP d p lv lg n S L P (hand h (N+2)::O) (j+5) H'->Q (.bl true) H'):ae tab R k 121 [wf h,wf m,wf ow] H Q E:=by
 delta j0;obtain⟨b,at_,x,cs,ws,es,fs,ha,hn,e,le,hg,z⟩:=z;have lf:=jr e;have z1:=Md z;clear z;walk_at "gd";rename_i r1 H1 r10 r11 z2 r2 H2 r20 r21 z3;clear z1 z2;have z3:=G6 z3;rw[Int.add_assoc]at z3;have zi:gj R m l s en ow SP d p lv lg n S L P (hand h (N+2)::O) j H2:=⟨b,at_,x,cs,ws,es,fs,ha,hn,e,le,hg,z3⟩;refine aJ (λg=>?_) (λg=>?_)
 .clear z3;right;refine dh (λi U H=>∃ u4,U=[some (wf h),some (wf m),some (wf ow),some (wn r1),u4]/\gj R m l s en ow SP d p lv lg n S L P (hand h (N+2)::O) (j+i) H) ⟨none,rfl,zi⟩ ?_ ?_
  .rintro i U H hi ⟨u4,rfl,zz⟩;have z0:=zz;obtain⟨_,_,_,_,_,_,_,_,_,_,_,_,z0⟩:=z0;right;refine af dE z0 .e rfl rfl ?_;left;clear z0;refine Kk ro nofun nofun okS eP hP zz (λw H7 go=>?_);right;refine go (λH8 zi8=>?_);left;refine wF rfl rfl ?_;refine ax (by rw[iY rfl];rfl) ?_;exact⟨_,rfl,zi8⟩
  .rintro U H ⟨u4,rfl,zz⟩;right;exact q H (zz.mono nofun)
 .clear zi;right;rw[ci];obtain⟨nb,enb⟩:∃ nb:Nat,(nb:Int)=min r1 (fs.length:Int):=⟨(min r1 (fs.length:Int)).toNat,by omega⟩;rw[<-enb];refine af dE z3 .e rfl rfl ?_;right;refine JC (nb:=nb) (j:=j) ro nofun nofun nofun ha hn e le hg z3 (λH3 _ nD=>?_);right;refine nD (λH4 zi=>?_);right;exact q H4 (zi.mono nofun)
structure M5 where
 l:Addr
 s:Addr
 b:Addr
 en:Addr
 hs:List aO
structure MT where
 d:Addr
 p:Addr
 lv:Addr
 lg:Addr
 hs:List aO
abbrev LK (R:Rt)(ds:List V)(at_:Int)(x:Bx)(cs:List Int)(ws:List Str)(es:List aO)(m:Addr):az:=bx λv:M5=>pu (v.hs.map dS=es.map dS)::aW R m v.l v.s v.b v.en at_ ds::aC R v.s cs ws::au R v.b x::pt v.en (wv (v.hs.map aq))::v.hs.map ao
abbrev Ck (SP:Addr)(at_:Int)(x:Bx)(cs:List Int)(ws:List Str)(fs:List aO)(ow:Addr):az:=bx λv:MT=>pu (v.hs.map dS=fs.map dS)::bD ow SP v.d v.p v.lv v.lg at_ x cs ws (v.hs.map aq) (v.hs.map ao)
def Hz (ha:0<=at_/\at_<=(S.length:Int))(hn:ws.length=n)(e:es.map dS=fs.map dS)(le:es.length<=j)(hg:∀ e ∈ es,qI n S.length e) (z:Sep (LK R (P.map aF) at_ x cs ws es m::Ck SP at_ x cs ws fs ow::O) H):Sep (nj R SP S P n j m ow::O) H:=by
 obtain⟨v,z⟩:=gY z;have ev:=Sep.pure z;have z:Sep ([aW R m v.l v.s v.b v.en at_ (P.map aF),aC R v.s cs ws,au R v.b x,pt v.en (wv (v.hs.map aq))]++(v.hs.map ao++(Ck SP at_ x cs ws fs ow::O))) H:=z.drop;obtain⟨u,z⟩:=gY (z.pull (aa (aa .e)));have eu:=Sep.pure z;have z:Sep ([]++(([pt ow (wv [wf SP,wn at_,wf u.d,wf u.p,wf u.lv,wf u.lg]),ar u.d x,pt u.p (wv (cs.map wn)),pt u.lv (wv (ws.map wp)),pt u.lg (wv (u.hs.map aq))]++u.hs.map ao)++([aW R m v.l v.s v.b v.en at_ (P.map aF),aC R v.s cs ws,au R v.b x,pt v.en (wv (v.hs.map aq))]++(v.hs.map ao++O)))) H:=z.drop;have z2:=Sep.mv z;have z3:Sep ([aW R m v.l v.s v.b v.en at_ (P.map aF),aC R v.s cs ws,au R v.b x,pt v.en (wv (v.hs.map aq)),pt ow (wv [wf SP,wn at_,wf u.d,wf u.p,wf u.lv,wf u.lg]),ar u.d x,pt u.p (wv (cs.map wn)),pt u.lv (wv (ws.map wp)),pt u.lg (wv (u.hs.map aq))]++(u.hs.map ao++(v.hs.map ao++O))) H:=by
  rw[li]at z2;exact z2
 have z4:=Sep.mv z3;refine eg (⟨v.l,v.s,v.b,v.en,u.d,u.p,u.lv,u.lg,at_,x,cs,ws,v.hs,u.hs⟩:Le) (Sep.jq ⟨ha,hn,ev.trans (e.trans eu.symm),by rw[<-jr ev];exact le,λe he=>qI.all ev.symm hg e he⟩ ?_);show Sep ([_,_,_,_,_,_,_,_,_]++(v.hs.map ao++u.hs.map ao)++O) H;rw[li,li];exact z4
def NH (ro:Ro K R)(hk:9<=k)(n0:1<=S.length)(n1:S.length<=24)(eP:P.map (·.2)=S.map (·.2))(hP:∀ a ∈ P,a ∈ L) (ha:0<=at_/\at_<=(S.length:Int)) (le:es.length<=1000) (z:Sep (qH R m l s b en ow SP d p lv lg at_ (P.map aF) (S.map aF) x cs ws es fs (eK R L S O)) H)
  (q:∀ m2 H',Sep (LK R (P.map aF) at_ x cs ws es m2::qH R m l s b en ow SP d p lv lg at_ (P.map aF) (S.map aF) x cs ws es fs (eK R L S O)) H'->Q (wf m2) H'):ae tab R k 58 [wf m] H Q E:=by
 have lP:P.length=S.length:=by
  have:=congrArg List.length eP
  rwa [ci,ci]at this
 have hrd:c9 R (eK R L S O) (P.map aF) (P.map (·.2)):=qa hP;have z1:Sep (aW R m l s b en at_ (P.map aF)::aC R s cs ws::au R b x::pt en (wv (es.map aq))::(es.map ao++(bD ow SP d p lv lg at_ x cs ws (fs.map aq) (pt SP (wv (S.map aF))::(fs.map ao++eK R L S O))))) H:=Sep.mv (P:=[_,_,_,_]) (Δ:=[_,_,_,_,_,_]) (L:=es.map ao) z;clear z;refine xp ro hk (by rw[ci];omega) (by rw[ci];omega) ha.1 (by rw[ci];omega) le hrd.app.more.more.more.more.more.more.all z1 (λm2 l2 s2 b2 en2 hs H' eh z2=>q m2 H' (eg (⟨l2,s2,b2,en2,hs⟩:M5) (Sep.jq eh ?_)));have z3:Sep (([aW R m2 l2 s2 b2 en2 at_ (P.map aF),aC R s2 cs ws,au R b2 x,pt en2 (wv (hs.map aq))]++(hs.map ao++[aW R m l s b en at_ (P.map aF),aC R s cs ws,au R b x,pt en (wv (es.map aq))]))++(es.map ao++([pt ow (wv [wf SP,wn at_,wf d,wf p,wf lv,wf lg]),ar d x,pt p (wv (cs.map wn)),pt lv (wv (ws.map wp)),pt lg (wv (fs.map aq)),pt SP (wv (S.map aF))]++(fs.map ao++eK R L S O)))) H':=by
  rw[li,li];exact z2
 have z4:=Sep.mv z3;rw[li,li]at z4;exact z4
def NR (hk:1<=k)(le:fs.length<=1000)(z:Sep (qH R m l s b en ow SP d p lv lg at_ (P.map aF) (S.map aF) x cs ws es fs (eK R L S O)) H)
  (q:∀ w2 H',Sep (Ck SP at_ x cs ws fs w2::qH R m l s b en ow SP d p lv lg at_ (P.map aF) (S.map aF) x cs ws es fs (eK R L S O)) H'->Q (wf w2) H'):ae tab R k 119 [wf ow] H Q E:=by
 have z1:Sep (bD ow SP d p lv lg at_ x cs ws (fs.map aq) (aW R m l s b en at_ (P.map aF)::aC R s cs ws::au R b x::pt en (wv (es.map aq))::pt SP (wv (S.map aF))::(es.map ao++(fs.map ao++eK R L S O)))) H:=z.sub (by ac_nf);clear z;have z2:Sep ([pt ow (wv [wf SP,wn at_,wf d,wf p,wf lv,wf lg]),ar d x,pt p (wv (cs.map wn)),pt lv (wv (ws.map wp)),pt lg (wv (fs.map aq))]++(([aW R m l s b en at_ (P.map aF),aC R s cs ws,au R b x,pt en (wv (es.map aq)),pt SP (wv (S.map aF))]++es.map ao)++(fs.map ao++eK R L S O))) H:=by
  rw[li];exact z1
 have z3:=Sep.mv z2;clear z1 z2;refine wD hk le z3 (λow2 d2 p2 lv2 lg2 hs H' eh z4=>q ow2 H' (eg (⟨d2,p2,lv2,lg2,hs⟩:MT) (Sep.jq eh ?_)));have z5:Sep ((([pt ow2 (wv [wf SP,wn at_,wf d2,wf p2,wf lv2,wf lg2]),ar d2 x,pt p2 (wv (cs.map wn)),pt lv2 (wv (ws.map wp)),pt lg2 (wv (hs.map aq))]++hs.map ao)++[pt ow (wv [wf SP,wn at_,wf d,wf p,wf lv,wf lg]),ar d x,pt p (wv (cs.map wn)),pt lv (wv (ws.map wp)),pt lg (wv (fs.map aq))])++(fs.map ao++(([aW R m l s b en at_ (P.map aF),aC R s cs ws,au R b x,pt en (wv (es.map aq)),pt SP (wv (S.map aF))]++es.map ao)++eK R L S O))) H':=by
  rw[li,li];exact z4
 have z6:=Sep.mv z5;have z7:Sep (([pt ow2 (wv [wf SP,wn at_,wf d2,wf p2,wf lv2,wf lg2]),ar d2 x,pt p2 (wv (cs.map wn)),pt lv2 (wv (ws.map wp)),pt lg2 (wv (hs.map aq))]++hs.map ao)++([pt ow (wv [wf SP,wn at_,wf d,wf p,wf lv,wf lg]),ar d x,pt p (wv (cs.map wn)),pt lv (wv (ws.map wp)),pt lg (wv (fs.map aq))]++([aW R m l s b en at_ (P.map aF),aC R s cs ws,au R b x,pt en (wv (es.map aq))]++(pt SP (wv (S.map aF))::(es.map ao++(fs.map ao++eK R L S O)))))) H':=by
  simp only[li,cons_append,nil_append]at z6⊢;exact z6
 exact Sep.mv z7
end
abbrev yz:lV->lV
 | .cons (.for _ _ b) _=>b
 |_=>.nil
def Ct {cs:List Int}(hk:1<=k)(z:Sep O H)(p:ah (aC R a cs ws) O Δ)(q:Q (wn cs.length) H):ae tab R k 86 [wf a] H Q E:=by
 obtain⟨hok,z2⟩:=fK (z.pull p);refine tZ hk z2 ?_;rw[ci];exact q
section
variable {s0 b0 DE KP k1 k2 k3:Addr}{lu:List Int}{ws0:List Str}{x0:Bx}{rows:List V}{r0:V}{D:Ends}{E:St->XK}{u0 u1 u2 u6 u7 u10:Option V}{i:Nat}
def CQ {t l1 l2 l3:Addr}(h1:H t=some (wv [wf l1,wf l2,wf l3]))(h2:H KP=some (wv [wf k1,wf k2,wf k3]))(a1:H l1=some (wv (lu.map wn)))(a2:H k1=some (wv (lu.map wn)))(b1:H l2=some (wv (ws0.map wp)))(b2:H k2=some (wv (ws0.map wp)))(c1:H l3=some (ww (x0.ls.map wn)))(c2:H k3=some (ww (x0.ls.map wn))):dR R.K H 3 (wf t) (wf KP) true:=by
 refine pJ h1 h2 rfl λj x y f1 f2=>?_
 match j,f1,f2 with
 |0,f1,f2=>cases f1;cases f2;exact pB a1 a2
 |1,f1,f2=>cases f1;cases f2;exact vW b1 b2
 |2,f1,f2=>cases f1;cases f2;exact F9 c1 c2
noncomputable abbrev gG (R:Rt)(DE s0 b0 KP k1 k2 k3:Addr)(rows:List V)(lu:List Int)(ws0:List Str)(x0:Bx)(O:List az):List az:=pt DE (wv rows)::aC R s0 lu ws0::au R b0 x0::pt KP (wv [wf k1,wf k2,wf k3])::pt k1 (wv (lu.map wn))::pt k2 (wv (ws0.map wp))::tu k3 (x0.ls.map wn)::O
def Jv (ro:Ro K R)(hk:8<=k)(hr:lS rows 0=some r0)(hl:rows.length<=1000)(z:Sep (gG R DE s0 b0 KP k1 k2 k3 rows lu ws0 x0 O) H)
  (q:∀ KP k1 k2 k3 ws0 x0 H',Sep (gG R DE s0 b0 KP k1 k2 k3 (rows++[r0]) lu ws0 x0 O) H'->D.nx [u0,u1,u2,some (wf DE),some (wf s0),some (wf b0),u6,u7,some (wf KP),some (wn (0+(i:Int))),u10] H'):
  wB (cw 3 (yz (cw 8 iz.body))) ⟨tab,R,ae tab R (k-1),true⟩ D E [u0,u1,u2,some (wf DE),some (wf s0),some (wf b0),u6,u7,some (wf KP),some (wn (0+(i:Int))),u10] H:=by
 have ok:=gP z .k1;right;refine af bg z .k1 rfl rfl ?_;left;refine i9 nofun z .k1 (λl1 H1 z1=>?_);clear z;right;refine af bg z1 .k2 rfl rfl ?_;left;refine f7 nofun z1 .k2 (λl2 H2 z2=>?_);clear z1;right;refine af a8 z2 (by symm) rfl rfl ?_;left;refine iq ro nofun z2 (by symm) (λl3 H3 z3=>?_);clear z2;right;rename_i t H4 z4;clear z3;refine uF (CQ (ws0:=ws0) (x0:=x0) (lu:=lu) z4.at (z4.get (by symm)) (z4.get (by symm)) (z4.get (by symm)) (z4.get (by symm)) (z4.get (by symm)) (z4.kM (by symm)) (z4.kM (by symm))) (by decide) (Sep.ne (z4.sub (Γ':=[pt t (wv [wf l1,wf l2,wf l3]),pt KP (wv [wf k1,wf k2,wf k3])]) (by ac_nf))) ?_;refine ax rfl ?_;have z5:Sep (pt DE (wv rows)::aC R s0 lu ws0::au R b0 x0::O) H4:=z4.sub (by ac_nf);clear z4;right;refine⟨DE,_,rfl,z5.at,?_⟩;right;refine aI z5.at hr ?_;right;refine⟨_,z5.at,lM z5 .e nofun (λH5 z6=>?_)⟩;clear z5;right;refine af bg z6 .k1 rfl rfl ?_;right;refine af bg z6 .k1 rfl rfl ?_;left;refine Ct nofun z6 .k1 ?_;right;rename_i wl H7 z7;obtain⟨w,hw,hlw⟩:∃ w:Str,lS [wp "open",wp "shut"] ((0+(i:Int)) % 2)=some (wp w)/\fR w=true:=by
  rcases(by omega:(0+(i:Int)) % 2=0\/(0+(i:Int)) % 2=1) with e|e<;>rw[e]
  .exact⟨"open",rfl,rfl⟩
  .exact⟨"shut",rfl,rfl⟩
 refine aI z7.at hw ?_;left;refine qK ro nofun z7 .k2 (Int.le_refl _) nofun (by rw[ok.1];exact Int.le_refl _) hlw (λH8 z8=>?_);generalize kG w ws0 _ _=ws1 at z8;have z9:Sep (au R b0 x0::pt DE (wv (rows++[r0]))::aC R s0 lu ws1::O) H8:=z8.sub (by ac_nf);clear z6 z7 z8;obtain⟨bh,bt,bl,bw,bs,bm⟩:=x0;right;refine af a8 z9 .e rfl rfl ?_;right;refine JB ro nofun z9 .e nofun (λH9 za=>?_);generalize (Bx.mk bh bt bl bw bs _)=x1 at za;clear z9;right;refine af bg za .k2 rfl rfl ?_;left;refine i9 nofun za .k2 (λl1 H1 z1=>?_);clear za;right;refine af bg z1 .k3 rfl rfl ?_;left;refine f7 nofun z1 .k3 (λl2 H2 z2=>?_);clear z1;right;refine af a8 z2 .k2 rfl rfl ?_;left;refine iq ro nofun z2 .k2 (λl3 H3 z3=>?_);clear z2;right;rename_i t H4 z4;exact q t l1 l2 l3 ws1 x1 H4 (z4.sub (by ac_nf))
end
abbrev two (i:Int)(a b:Addr):List V:=if i=0 then[wf a,wf b] else[wf b,wf a]
def g7 {b:Addr}(h:i=0\/i=1):lS (two i a b) i=some (wf a)/\lS (two i a b) (1-i)=some (wf b):=by rcases h with rfl|rfl<;>exact⟨rfl,rfl⟩
def vE {b c:Addr}(h:i=0\/i=1):(two i a b).set i.toNat (wf c)=two i c b:=by rcases h with rfl|rfl<;>rfl
def vF {b:Addr}(h:i=0\/i=1):(two i a b).length=2:=by rcases h with rfl|rfl<;>rfl
section
variable {h SP ML OL m w m' w':Addr}{S L P:List (Addr×Rw)}{n j:Nat}{N r:Int}{G:List az}
noncomputable abbrev t8 (R:Rt)(h SP ML OL:Addr)(S L:List (Addr×Rw))(n j:Nat)(N r:Int)(m w m' w':Addr)(G:List az):List az:=nj R SP S L n j m w::pt SP (wv (S.map aF))::eK R L S (nj R SP S L n j m' w'::hand h N::pt ML (wv (two r m m'))::pt OL (wv (two r w w'))::G)
noncomputable abbrev sv (R:Rt)(h SP ML OL:Addr)(S L:List (Addr×Rw))(n j:Nat)(N:Int)(m w m' w':Addr)(G:List az):List az:=nj R SP S L n j m w::nj R SP S L n j m' w'::pt SP (wv (S.map aF))::eK R L S (hand h N::pt ML (wv [wf m,wf m'])::pt OL (wv [wf w,wf w'])::G)
def EN (hr:r=0\/r=1)(z:Sep (sv R h SP ML OL S L n j N m w m' w' G) H):∃ m w m' w',Sep (t8 R h SP ML OL S L n j N r m w m' w' G) H:=by
 rcases hr with rfl|rfl
 .exact⟨m,w,m',w',Sep.push (.j2 (aa (aa .e))) (z.pull .k1)⟩
 .exact⟨m',w',m,w,Sep.push (.j2 (aa (aa .e))) z⟩
def EH (hr:r=0\/r=1)(z:Sep (t8 R h SP ML OL S L n j N r m w m' w' G) H):∃ m w m' w',Sep (sv R h SP ML OL S L n j N m w m' w' G) H:=by
 have z1:=z.pull (A:=nj R SP S L n j m' w') (.j2 (aa (aa .e)));rcases hr with rfl|rfl
 .exact⟨m,w,m',w',z1.pull .k1⟩
 .exact⟨m',w',m,w,z1⟩
def qd {j':Nat}(hj:j<=j')(z:Sep (nj R SP S P n j m w::O) H):Sep (nj R SP S P n j' m w::O) H:=by
 obtain⟨v,z⟩:=gY z;obtain⟨h1,h2,h3,h4,h5⟩:=Sep.pure z;exact eg v (Sep.jq ⟨h1,h2,h3,by omega,h5⟩ z.drop)
end
section
variable {h SP ML OL m w m' w':Addr}{S L P:List (Addr×Rw)}{n j:Nat}{N r:Int}{G:List az}{D:Ends}{E:St->XK}{u0 u2 u3 u4 u5 u8 u9:Option V}
def GV (ro:Ro K R)(hk:13<=k)(hj:j<=900)(hr:r=0\/r=1)(z:Sep (t8 R h SP ML OL S L n j N r m w m' w' G) H)
  (q:∀ F m w m' w' H',Sep (sv R h SP ML OL S L n j N m w m' w' (pt F (wv [.bl true,.bl true])::G)) H'->wB (cw 3 (yz (cw 8 iz.body))) ⟨tab,R,ae tab R (k-1),true⟩ D E [u0,some (wf h),u2,u3,u4,u5,some (wf OL),some (wf ML),u8,u9,some (wn r)] H'):
  wB (cw 2 (yz (cw 8 iz.body))) ⟨tab,R,ae tab R (k-1),true⟩ D E [u0,some (wf h),u2,u3,u4,u5,some (wf OL),some (wf ML),u8,u9,some (wn r)] H:=by
 obtain⟨l,s,en,d,p,lv,lg,b,at_,x,cs,ws,es,fs,ha,hn,e,le,hg,z1⟩:=C9 z;clear z;right;refine aI (z1.get (a:=ML) (.j2 (.j2 (.j2 (.j2 (.j2 (aa (aa (aa (aa .k2)))))))))) (g7 hr).1 ?_;right;refine Bd ro nofun nofun (λe he=>(hg e he).2.2.2.2.1) z1 (λH1 z2=>?_);have z3:Sep (t8 R h SP ML OL S L n j N r m w m' w' G) H1:=CH ⟨b,at_,x,cs,ws,es,fs,ha,hn,e,le,hg,z2⟩;clear z1 z2;obtain⟨m,w,m',w',z4⟩:=EH hr z3;clear z3;refine ax rfl ?_;right;refine vb (n:=2) (by decide) (λF ys H=>ys=tz ys.length (.bl true)/\∃ m w m' w',Sep (sv R h SP ML OL S L n j N m w m' w' (pt F (wv ys)::G)) H) (λF hF=>⟨rfl,m,w,m',w',Sep.push (.j2 (.t (aa (aa .k3)))) (z4.new (o:=wv []) hF)⟩) (λF ys H hl hI=>?_) (λF ys H hl hI=>?_)
 .obtain⟨ey,m,w,m',w',zz⟩:=hI;have hk2:(0+(ys.length:Int))=0\/(0+(ys.length:Int))=1:=by omega
  obtain⟨m,w,m',w',zz⟩:=EN hk2 zz;obtain⟨l,s,en,d,p,lv,lg,zi⟩:=C9 zz;have iM:=zz.get (a:=ML) (.j2 (aa (aa .k2)));have iO:=zz.get (a:=OL) (.j2 (aa (aa .k3)));clear zz z4;right;refine aI iM (g7 hk2).1 ?_;right;refine aI iO (g7 hk2).1 ?_;right;refine gj.st ro nofun nofun zi (λH2 zi=>?_);obtain⟨m,w,m',w',z5⟩:=EH hk2 (CH zi);have z6:=z5.pull (A:=pt F (wv ys)) (.j2 (.t (aa (aa .k3))));refine rz.mk z6.at nofun ⟨?_,m,w,m',w',Sep.push (.j2 (.t (aa (aa .k3)))) (z6.set (o':=wv (ys++[.bl true])) rfl)⟩;rw[cr,ge,List.replicate_succ',<-ey]
 obtain⟨ey,m,w,m',w',z5⟩:=hI;rw[hl]at ey;have ey:ys=[.bl true,.bl true]:=ey;subst ey;clear z4;left;refine Fp (K:=R.K) (bs:=[true,true]) rfl (z5.get (.j2 (.t (aa (aa .k3))))) ?_;refine ax rfl ?_;exact q F m w m' w' H z5
end
abbrev Kl:lV->lV
 | .cons (.ife _ a _) _=>a
 |_=>.nil
section
variable {h SP ML OL DE s0 b0:Addr}{S L P:List (Addr×Rw)}{n j c:Nat}{N:Int}{lu:List Int}{r0:V}
abbrev wA (R:Rt)(h SP ML OL DE s0 b0:Addr)(S L:List (Addr×Rw))(n j c:Nat)(N:Int)(lu:List Int)(r0:V)(KP:Addr)(H:Hp):Prop:=∃ m w m' w' k1 k2 k3 rows ws0 x0,rows[0]? =some r0/\rows.length<=c/\Sep (sv R h SP ML OL S L n j N m w m' w' (gG R DE s0 b0 KP k1 k2 k3 rows lu ws0 x0 [])) H
variable {D:Ends}{E:St->XK}{u0 u2 u9 u10:Option V}{KP m w m' w':Addr}{r:Int}{G:List az}{i:Nat}
def Ht {u3 u4 u5 u8:Option V}(ro:Ro K R)(hk:13<=k)(hj:j<=900)(hr:r=0\/r=1)(s0:1<=S.length)(s1:S.length<=24)(eL:L.map (·.2)=S.map (·.2))(z:Sep (t8 R h SP ML OL S L n j N r m w m' w' G) H)
  (q:∀ m w m' w' H',Sep (t8 R h SP ML OL S L n j N r m w m' w' G) H'->D.nx [u0,some (wf h),u2,u3,u4,u5,some (wf OL),some (wf ML),u8,u9,some (wn r)] H'):
  wB (Kl (cw 1 (yz (cw 8 iz.body)))) ⟨tab,R,ae tab R (k-1),true⟩ D E [u0,some (wf h),u2,u3,u4,u5,some (wf OL),some (wf ML),u8,u9,some (wn r)] H:=by
 have z0:=z.drop.pull (A:=nj R SP S L n j m' w') (.t (aa (aa .e)));obtain⟨l,s,en,d,p,lv,lg,b,at_,x,cs,ws,es,fs,ha,hn,e,le,hg,z1⟩:=C9 z0;clear z z0;have lf:=jr e;have e0:(1:Int)-r=0\/(1:Int)-r=1:=by omega
 right;refine aI (z1.get (a:=ML) (.j2 (.j2 (.j2 (.j2 (.j2 (aa (aa (aa (aa .k1)))))))))) (g7 hr).2 ?_;right;refine af dE z1 .e rfl rfl ?_;left;refine NH ro nofun s0 s1 eL (λa h=>h) ha nofun z1 (λm2 H1 z2=>?_);clear z1;have z3:=z2.pull (A:=pt ML (wv (two r m m'))) (.t (.j2 (.j2 (.j2 (.j2 (.j2 (aa (aa (aa (aa .k1))))))))));clear z2;left;refine cI (xs:=two r m m') z3 .e (bT nofun (by rw[vF hr];omega)) (vE hr) (λH2 z4=>?_);clear z3;have z5:=G6 (Sep.push (.t (.j2 (.j2 (.j2 (.j2 (.j2 (aa (aa (aa (aa .k1)))))))))) z4);clear z4;right;refine aI (z5.get (a:=OL) (.j2 (.j2 (.j2 (.j2 (.j2 (aa (aa (aa (aa .k3)))))))))) (g7 hr).2 ?_;right;refine NR nofun nofun z5 (λw2 H3 z6=>?_);clear z5;have z7:=z6.pull (A:=pt OL (wv (two r w w'))) (.t (.j2 (.j2 (.j2 (.j2 (.j2 (aa (aa (aa (aa .k3))))))))));clear z6;left;refine cI (xs:=two r w w') z7 .e (bT nofun (by rw[vF hr];omega)) (vE hr) (λH4 z8=>?_);clear z7;have z9:=Sep.push (.t (.j2 (.j2 (.j2 (.j2 (.j2 (aa (aa (aa (aa .k3)))))))))) z8;have za:=Hz ha hn e le hg (z9.pull (A:=LK R (L.map aF) at_ x cs ws es m2) (.t (.j2 (.j2 (.j2 (.j2 (.j2 (aa (aa (aa (aa .e)))))))))));have zb:=CH ⟨b,at_,x,cs,ws,es,fs,ha,hn,e,le,hg,G6 za⟩;have zc:=zb.pull (A:=nj R SP S L n j m2 w2) (.j2 (aa (aa .e)));exact q m2 w2 m' w' H4 (Sep.push (.j2 (aa (aa .e))) (zc.pull .k1))
def Il (ro:Ro K R)(hk:14<=k)(hj:j<=500)(hc:c<=900)(hN:N<=1099000000000)(n0:1<=S.length)(n1:S.length<=24)(okS:∀ r ∈ S.map (·.2),Rw.ok r) (eL:L.map (·.2)=S.map (·.2)) (z:wA R h SP ML OL DE s0 b0 S L n j c N lu r0 KP H)
  (q:∀ KP u10 H',wA R h SP ML OL DE s0 b0 S L n (j+5) (c+1) (N+4) lu r0 KP H'->D.nx [u0,some (wf h),u2,some (wf DE),some (wf s0),some (wf b0),some (wf OL),some (wf ML),some (wf KP),some (wn (0+(i:Int))),u10] H'):
  wB (yz (cw 8 iz.body)) ⟨tab,R,ae tab R (k-1),true⟩ D E [u0,some (wf h),u2,some (wf DE),some (wf s0),some (wf b0),some (wf OL),some (wf ML),some (wf KP),some (wn (0+(i:Int))),u10] H:=by
 obtain⟨m,w,m',w',k1,k2,k3,rows,ws0,x0,hr0,hrl,z⟩:=z;generalize hG:gG R DE s0 b0 KP k1 k2 k3 rows lu ws0 x0 []=G at z;have last:∀ {r:Int}{m w m' w':Addr}{H:Hp},r=0\/r=1->Sep (t8 R h SP ML OL S L n (j+5) (N+4) r m w m' w' G) H->wB (cw 2 (yz (cw 8 iz.body))) ⟨tab,R,ae tab R (k-1),true⟩ D E [u0,some (wf h),u2,some (wf DE),some (wf s0),some (wf b0),some (wf OL),some (wf ML),some (wf KP),some (wn (0+(i:Int))),some (wn r)] H:=λ{r m w m' w' H} hr z=>by
  refine GV (k:=k) ro nofun nofun hr z (λF m w m' w' H2 z2=>?_);subst hG;have z3:Sep ([]++((nj R SP S L n (j+5) m w::nj R SP S L n (j+5) m' w'::pt SP (wv (S.map aF))::(L.reverse.map (pV R)++(S.reverse.map mQ++[hand h (N+4),pt ML (wv [wf m,wf m']),pt OL (wv [wf w,wf w']),pt F (wv [.bl true,.bl true])])))++(gG R DE s0 b0 KP k1 k2 k3 rows lu ws0 x0 []++[]))) H2:=by
   simp only[li,cons_append,nil_append,append_nil];exact z2
  have z4:=Sep.mv z3;clear z2 z3;refine Jv (k:=k) ro nofun (aY (i:=0) (Int.le_refl _) hr0) nofun z4 (λKP' k1' k2' k3' ws' x' H3 z5=>q KP' _ H3 ?_);have z6:=Sep.mv (P:=[]) (Δ:=gG R DE s0 b0 KP' k1' k2' k3' (rows++[r0]) lu ws' x' []) (O:=[]) z5;refine⟨m,w,m',w',k1',k2',k3',rows++[r0],ws',x',?_,by rw[cr,ge];omega,?_⟩
  .cases rows with
   |nil=>cases hr0
   |cons a t=>exact hr0
  .have z7:Sep (sv R h SP ML OL S L n (j+5) (N+4) m w m' w' (pt F (wv [.bl true,.bl true])::gG R DE s0 b0 KP' k1' k2' k3' (rows++[r0]) lu ws' x' [])) H3:=by
    simp only[li,cons_append,nil_append,append_nil]at z6⊢;exact z6
   exact(z7.pull (A:=pt F _) (.j2 (.t (aa (aa .k3))))).drop
 have z0:=z.pull (A:=hand h N) (.j2 (.t (aa (aa .e))));clear z;walk_at "gd";rename_i r H1 r00 r1 z1 c6 H2 c0 c1 z2;clear z0 z1;have hr:r=0\/r=1:=by omega
 have z3:Sep (sv R h SP ML OL S L n j (N+2) m w m' w' G) H2:=Sep.push (.j2 (.t (aa (aa .e)))) (aw z2 nofun);obtain⟨m,w,m',w',z4⟩:=EN hr z3;clear z2 z3;refine aS (λg=>?_) (λg=>?_)
 .refine Ht (k:=k) ro nofun nofun hr n0 n1 eL z4 (λm w m' w' H3 z5=>last (m:=m) (w:=w) (m':=m') (w':=w') hr ?_);have z6:=Sep.push (.j2 (aa (aa .e))) (qd (j':=j+5) nofun (z5.pull (A:=nj R SP S L n j m' w') (.j2 (aa (aa .e)))));have z7:=aw (n:=N+4) (z6.pull (A:=hand h (N+2)) (.j2 (aa (aa .k1)))) nofun;exact qd nofun (Sep.push (.j2 (aa (aa .k1))) z7)
 .have iM:=z4.get (a:=ML) (.j2 (aa (aa .k2)));have iO:=z4.get (a:=OL) (.j2 (aa (aa .k3)));have z5:=Sep.push (.j2 (aa (aa .e))) (z4.pull (A:=hand h (N+2)) (.j2 (aa (aa .k1))));obtain⟨l,s,en,d,p,lv,lg,zi⟩:=C9 z5;clear z4 z5;right;refine aI iM (g7 hr).1 ?_;right;refine aI iO (g7 hr).1 ?_;right;refine Ea ro nofun nofun nofun okS eL (λa h=>h) zi (λH3 zi=>?_);refine ax rfl ?_;refine last (m:=m) (w:=w) (m':=m') (w':=w') hr ?_;have z6:=CH zi;rw[Int.add_assoc]at z6;have z7:=Sep.push (.j2 (aa (aa .k1))) (z6.pull (A:=hand h (N+4)) (.j2 (aa (aa .e))));exact Sep.push (.j2 (aa (aa .e))) (qd nofun (z7.pull (A:=nj R SP S L n j m' w') (.j2 (aa (aa .e)))))
end
def Jz {m l s b en ow SP p lg:Addr}{cs:List Int}{S P:List (Addr×Rw)}(ha:0<=at_/\at_<=(S.length:Int))(hn:ws.length=n)(z:Sep (aW R m l s b en at_ (P.map aF)::aC R s cs ws::au R b x::pt en (wv [])::bD ow SP d p lv lg at_ x cs ws [] O) H):Sep (nj R SP S P n 0 m ow::O) H:=
 eg (⟨l,s,b,en,d,p,lv,lg,at_,x,cs,ws,[],[]⟩:Le) (Sep.jq ⟨ha,hn,rfl,Nat.zero_le _,λe he=>nomatch he⟩ z)
def HC (ro:Ro K R)(hk:14<=k):∀ vs H Q E,jK K 63 vs H Q E->ae tab R k 122 vs H Q E:=by
 rintro vs H Q E ⟨a,sc,rfl,hS,h63,hQ⟩;delta iz;right;rw[<-ro.hK]at hS;refine Fv nofun Sep.nil hS h63 (λh H1 z1=>?_);right;refine FZ (O:=[]) (m:=10) nofun nofun (by decide) (by decide) (aw z1 nofun) (λow SP d p lv lg at_ x cs ws S H4 c0 c60 hc hl hw hx s0 s1 okS a0 a1 z4=>?_);clear z1;right;have hs0:ft (bD ow SP d p lv lg at_ x cs ws [] (pt SP (wv (S.map aF))::hand h 1010::(S.reverse.map mQ++[]))) (S.map aF) (S.map (·.2)):=(rh (S:=S) (O:=[]) rfl okS).more.more.more.more.more.more.more;refine AO (rs:=S.map (·.2)) (k:=k-1) ro nofun (by rw[ci];exact s1) hs0 (.j2 (.t .k2)) z4 (λh=>?_) (λDE L H5 eL z5=>?_)
 .right;exact h
 clear z4;have z6:Sep (pt DE (wv (L.map aF))::bD ow SP d p lv lg at_ x cs ws [] (pt SP (wv (S.map aF))::hand h 1010::(L.reverse.map (pV R)++(S.reverse.map mQ++[])))) H5:=Sep.mv (P:=[_]) (Δ:=L.reverse.map (pV R)) (L:=[_,_,_,_,_,_,_]) z5;have ll:L.length=S.length:=by
  have:=congrArg List.length eL
  rwa [ci,ci]at this
 have z7:Sep (pt p (wv (cs.map wn))::pt lv (wv (ws.map wp))::pt DE (wv (L.map aF))::pt ow (wv [wf SP,wn at_,wf d,wf p,wf lv,wf lg])::ar d x::pt lg (wv [])::pt SP (wv (S.map aF))::hand h 1010::(L.reverse.map (pV R)++(S.reverse.map mQ++[]))) H5:=z6.sub (by ac_nf);clear z5 z6;right;refine AS ro nofun c0 c60 hc hl hw z7 (λst H6 z8=>?_);clear z7;have z9:Sep (ar d x::aC R st cs ws::pt p (wv (cs.map wn))::pt lv (wv (ws.map wp))::pt DE (wv (L.map aF))::pt ow (wv [wf SP,wn at_,wf d,wf p,wf lv,wf lg])::pt lg (wv [])::pt SP (wv (S.map aF))::hand h 1010::(L.reverse.map (pV R)++(S.reverse.map mQ++[]))) H6:=z8.sub (by ac_nf);clear z8;right;refine yY ro nofun hx z9 (λbo H7 za=>?_);clear z9;have zb:Sep (bD ow SP d p lv lg at_ x cs ws [] (au R bo x::aC R st cs ws::pt DE (wv (L.map aF))::pt SP (wv (S.map aF))::hand h 1010::(L.reverse.map (pV R)++(S.reverse.map mQ++[])))) H7:=za.sub (by ac_nf);clear za;right;refine wD (fs:=[]) nofun (by decide) zb (λow2 d2 p2 lv2 lg2 hs H8 eh zc=>?_);clear zb;obtain rfl:hs=[]:=List.map_eq_nil_iff.mp eh;right;rename_i OL H9 zd;have ze:Sep (au R bo x::aC R st cs ws::pt DE (wv (L.map aF))::pt OL (wv [wf ow,wf ow2])::bD ow SP d p lv lg at_ x cs ws [] (bD ow2 SP d2 p2 lv2 lg2 at_ x cs ws [] (pt SP (wv (S.map aF))::hand h 1010::(L.reverse.map (pV R)++(S.reverse.map mQ++[]))))) H9:=Sep.sub (by ac_nf) (show Sep (pt OL (wv [wf ow,wf ow2])::bD ow2 SP d2 p2 lv2 lg2 at_ x cs ws [] (bD ow SP d p lv lg at_ x cs ws [] (au R bo x::aC R st cs ws::pt DE (wv (L.map aF))::pt SP (wv (S.map aF))::hand h 1010::(L.reverse.map (pV R)++(S.reverse.map mQ++[]))))) H9 from zd);clear zc zd;have hrd:c9 R (L.reverse.map (pV R)++(S.reverse.map mQ++[])) (L.map aF) (L.map (·.2)):=qa λa h=>h
 have hal:∀ {Δ:List az},xX R (Δ++(L.reverse.map (pV R)++(S.reverse.map mQ++[]))) (L.map aF):=λ{Δ}=>hrd.app.all
 right;intro m dx g1 g2 g3;refine mN ro nofun (by rw[ci];omega) (by rw[ci];omega) a0 (by rw[ci];omega) .k2 .k1 .e (by exact hal (Δ:=[_,_,_,_,_,_,_,_,_,_,_,_,_,_,_,_])) (gk ze g1 g2 g3) (λl1 s1' b1 en1 Ha zf=>⟨rfl,?_⟩);clear ze;right;intro m' dx' g1' g2' g3';refine mN ro nofun (by rw[ci];omega) (by rw[ci];omega) a0 (by rw[ci];omega) (.j2 (.j2 .k2)) (.j2 .k3) (.j2 .k2) (by exact hal (Δ:=[_,_,_,_,_,_,_,_,_,_,_,_,_,_,_,_,_,_,_,_])) (gk zf g1' g2' g3') (λl2 s2' b2 en2 Hb zg=>⟨rfl,?_⟩);clear zf;right;rename_i ML Hc zh;clear zg;refine af bg zh (.j2 (.j2 (.j2 (.j2 .k2)))) rfl rfl ?_;left;refine i9 nofun zh (.j2 (.j2 (.j2 (.j2 .k2)))) (λk1 Hd zi=>?_);clear zh;right;refine af bg zi (.j2 (.j2 (.j2 (.j2 .k3)))) rfl rfl ?_;left;refine f7 nofun zi (.j2 (.j2 (.j2 (.j2 .k3)))) (λk2 He zj=>?_);clear zi;right;refine af a8 zj (.j2 (.j2 (.j2 (.j2 .k3)))) rfl rfl ?_;left;refine iq ro nofun zj (.j2 (.j2 (.j2 (.j2 .k3)))) (λk3 Hf zk=>?_);clear zj;right;rename_i KP Hg zl;have ha:0<=at_/\at_<=(S.length:Int):=⟨a0,a1⟩
 have zm:Sep (aW R m l1 s1' b1 en1 at_ (L.map aF)::aC R s1' cs ws::au R b1 x::pt en1 (wv [])::bD ow SP d p lv lg at_ x cs ws [] (aW R m' l2 s2' b2 en2 at_ (L.map aF)::aC R s2' cs ws::au R b2 x::pt en2 (wv [])::bD ow2 SP d2 p2 lv2 lg2 at_ x cs ws [] (pt SP (wv (S.map aF))::hand h 1010::pt ML (wv [wf m,wf m'])::pt OL (wv [wf ow,wf ow2])::gG R DE st bo KP k1 k2 k3 (L.map aF) cs ws x (L.reverse.map (pV R)++(S.reverse.map mQ++[]))))) Hg:=zl.sub (by ac_nf);clear zk zl;have zn:=Jz ha rfl ((Jz ha rfl zm).pull (A:=aW R m' l2 s2' b2 en2 at_ (L.map aF)) .k1 |>.sub (.cons .e (.cons .k1 (.cons .k1 (.cons .k1 (.cons .k1 (.cons .k1 (.cons .k1 (.cons .k1 (.cons .k1 .refl))))))))));have zo:Sep (nj R SP S L ws.length 0 m ow::nj R SP S L ws.length 0 m' ow2::pt SP (wv (S.map aF))::hand h 1010::pt ML (wv [wf m,wf m'])::pt OL (wv [wf ow,wf ow2])::gG R DE st bo KP k1 k2 k3 (L.map aF) cs ws x (L.reverse.map (pV R)++(S.reverse.map mQ++[]))) Hg:=zn.sub (by ac_nf);have zp:Sep (sv R h SP ML OL S L ws.length 0 1010 m ow m' ow2 (gG R DE st bo KP k1 k2 k3 (L.map aF) cs ws x [])) Hg:=by
  have y:Sep ([nj R SP S L ws.length 0 m ow,nj R SP S L ws.length 0 m' ow2,pt SP (wv (S.map aF))]++(([hand h 1010,pt ML (wv [wf m,wf m']),pt OL (wv [wf ow,wf ow2])]++gG R DE st bo KP k1 k2 k3 (L.map aF) cs ws x [])++((L.reverse.map (pV R)++S.reverse.map mQ)++[]))) Hg:=by
   simp only[li,cons_append,nil_append];exact zo
  have y2:=Sep.mv y;simp only[li,cons_append,nil_append,append_nil]at y2⊢;exact y2
 clear zm zn zo;obtain⟨r0,hr0⟩:∃ r0,(L.map aF)[0]? =some r0:=⟨_,lw (by rw[ci];omega)⟩;have zz:wA R h SP ML OL DE st bo S L ws.length 0 24 1010 cs r0 KP Hg:=⟨m,ow,m',ow2,k1,k2,k3,_,ws,x,hr0,by rw[ci];omega,zp⟩;clear zp;right;refine dh (λi U H=>∃ KP u9 u10,U=[some (wf a),some (wf h),some (wf ow),some (wf DE),some (wf st),some (wf bo),some (wf OL),some (wf ML),some (wf KP),u9,u10]/\wA R h SP ML OL DE st bo S L ws.length (5*i) (24+i) (1010+4*(i:Int)) cs r0 KP H) ⟨KP,none,none,rfl,(show(1010:Int)+4*((0:Nat):Int)=1010 by omega)▸zz⟩ ?_ ?_
 .rintro i U H hi ⟨KP,u9,u10,rfl,zz⟩;have hi:i<16:=hi;refine Il (k:=k) ro nofun nofun nofun nofun s0 s1 okS eL zz (λKP u10 H' z2=>⟨KP,_,u10,rfl,?_⟩);rw[show(1010:Int)+4*((i+1:Nat):Int)=1010+4*(i:Int)+4 by omega];exact z2
 .rintro U H ⟨KP,u9,u10,rfl,zz⟩;right;exact hQ H
def AI (ro:Ro K R):∀ vs H Q E,jK K 63 vs H Q E->ae tab R 14 122 vs H Q E:=HC ro (sw _)
end
def walk {l:W.OpenLaw}{q:Program}{loose:List Str}{XP:(Str->Option Value)->Heap->Prop}{YP:World->Heap->Prop}{d:DefRec}{K:Params->W.Frag}(hn:l.most=some 63)(hdf:d.params.defaults=[])
    (hY:∀ (w:World) (h:Heap),YP w h->(K w.params).In h)
    (F:∀ (w:World) (mg:NX) (fa:Addr) (h:Heap),(K w.params).In h->h.Ns mainGlobals mg->mg d.name=some (.ref fa)->
      ∃ fd:FuncData,(∀ (s:Shared) (u:Value),BindsTo s fd ⟨[u],[]⟩ [("_law_script",u)])/\∀ base:Heap,(K w.params).In base->base.Ns mainGlobals mg->dr l.prog w (K w.params) mg base (Bg l.prog w) 28 fa fd ["_law_script"] (jK (K w.params) 63)):
    W.WalkO q loose XP YP l.row.toRowW d [] (λf vs=>PySem.call f vs):=
  L2.CF (n:=63) (k:=28) (x:="_law_script") (CX:=λw=>Bg l.prog w) (sp:=λw=>jK (K w.params) 63) hn (by decide) hdf ⟨rfl,by decide,by decide⟩ hY F (λ_ _ a ns hl _ hS=>⟨a,ns,rfl,hS,hl,λ_=>rfl⟩) λ_ _ _ _ _ z=>zI z
abbrev Nj:List (Str×V):=[("BOUND",.int 1000000000),("MOST_ROWS",.int 24),("MOST_HOPPED",.int 24),("MOST_CELLS",.int 60),("NAMES",.ref 220),("LEAVES",.ref 942)]
def NQ (p:Params):L3.Cw (K0 p) tab LA lu Nj=true:=by kernel_rfl
def NI (p:Params):L3.nB (K0 p) tab LA 0 tab.fns=true:=by kernel_rfl
end My
open PySem PySem.W PyProof.Rows
set_option maxRecDepth 100000 in
set_option maxHeartbeats 0 in
theorem PySem.Challenge.cw_haulbell_k59_again_and_shared_holds : PySem.Challenge.rw_haulbell_k59_again_and_shared.Holds := by
  refine holds_law My.JU fun said=>?_
  refine W.holds_open (loose:=My.A4) (N:=20232)
    (q:=My.rO My.pr)
    (Yf:=fun s=>My.Lr.map s.heap.get?)
    (Ya:=fun w=>(My.K0 w.params).map fun p=>some p.2)
    (Xt:=fun s=>xlAt (My.rO My.pr) [] s&&recOk PySem.Challenge.rw_haulbell_k59_again_and_shared.row.records s)
    (XP:=XL (My.rO My.pr) [])
    (YP:=InK My.K0) My.KD
    (InK.of (as:=My.Lr) fun _=>by kernel_rfl) InK.keeps
    (fun s e=>xl_of s (Bool.and_eq_true_iff.mp e).1)
    XL.keeps (by rfl) (by rfl) (by rfl)
    (fun s e=>recFacts_of (Bool.and_eq_true_iff.mp e).2)
    (by rfl) (by assumption) (by decide+kernel)
    ⟨rfl,rfl,rfl,rfl,rfl,by decide+kernel⟩ ?hw ?hc
  case hw=>w_witness2
  refine My.walk (l:=PySem.Challenge.rw_haulbell_k59_again_and_shared) rfl rfl (fun w h Y=>Y) ?F
  case F=>
    intro w mg fa h KX G hmg;exact L3.Co KX G hmg (T:=My.tab) (fs:=My.LA) (cs:=My.lu) (gs:=My.Nj) (d:=My.iz) (fl:=122) (k:=14) (My.NQ _) (My.NI _) (by kernel_rfl) rfl rfl rfl (My.AI ⟨rfl,by kernel_rfl,by kernel_rfl,by kernel_rfl,by kernel_rfl,⟨220,by kernel_rfl,L3.Ax (by kernel_rfl)⟩,⟨942,by kernel_rfl,L3.Ax (by kernel_rfl)⟩⟩)
