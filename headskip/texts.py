"""The text of a store, in rows."""


def store_text(store):
    """The text of a store."""
    rows = [" ".join(["names", *store.names]), f"upkeep {str(store.upkeep)}"]
    for block in store.blocks:
        rows.append(f"lots {str(block.lots)}")
        rows.append(f"head {str(block.head)}")
    return "\n".join(rows)
