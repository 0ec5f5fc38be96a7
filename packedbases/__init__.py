"""Things kept as changes of others: rules for bases, and what they let become of stores."""
